import Derived.Test.YtdhkdniddjnigaaGreatDoorJ8
import Derived.Lib.OthersKept
import Derived.WalkSmall
import Derived.Deep.MidRow
namespace Go.Proofs.YtdhkdniddjnigaaGreatDoor
open Go.RowKit Go.Lib
set_option linter.unusedVariables false

theorem iterAt_below {w wr : World} {s : ByteArray} {k p : Nat} (h : Below w.heap.size w wr) (hk : w.heap.size ≤ k) : Below w.heap.size w (wr.iterAt k s p) := by
  refine ⟨h.os, h.tape, h.output, ?_, fun i hi => ?_⟩
  · have := h.size
    simpa [World.iterAt] using this
  · rw [← h.block i hi]
    simp only [World.iterAt]
    rw [Array.getElem?_setIfInBounds_ne (by omega)]
def allF : ByteArray := ⟨#[86, 75, 67, 78, 76, 81, 72, 79, 82, 69, 71]⟩
theorem fld_ascii (k : Nat) (r : UInt8) (h : r ∈ fldN.getD k []) : r.toNat < 128 := by
  have key : ∀ l ∈ fldN, ∀ r ∈ l, r.toNat < 128 := by decide
  by_cases hk : k < fldN.length
  · rw [List.getD, List.getElem?_eq_getElem hk] at h
    exact key _ (List.getElem_mem hk) r h
  · rw [List.getD, List.getElem?_eq_none (by omega)] at h
    cases h
theorem all_ascii (i : Nat) (h : i < allF.size) : (allF[i]'h).toNat < 128 ∧ allF[i]'h ∈ allF.data.toList := by
  have hm : allF[i]'h ∈ allF.data.toList := by
    simp only [Array.mem_toList_iff]
    exact Array.getElem_mem _
  have key : ∀ r ∈ allF.data.toList, r.toNat < 128 := by decide
  exact ⟨key _ hm, hm⟩
def inH (k : Nat) (h : Bool) (r : Nat) : Bool := inK k r && (decide (r ≠ 71) || (decide ((k : Int) ≠ 11) || h))
end Go.Proofs.YtdhkdniddjnigaaGreatDoor

namespace Go.Proofs.YtdhkdniddjnigaaGreatDoor
open Go.RowKit Go.Lib
set_option linter.unusedVariables false

abbrev Ms.V (m : Ms) : Value := .agg #[.int .i64 m.k, .int .i64 m.f, .int .i64 m.t, .int .i64 m.v, .int .i64 m.n, .int .i64 m.c, .int .i64 m.o, .int .i64 m.l, .int .i64 m.q, .bool m.h, .int .i64 m.ok, .string m.onm, .string m.otx, .int .i64 m.on, .int .i64 m.om, .int .i64 m.rc, .int .i64 m.rn, .slice m.ra m.rl m.rp, .slice m.ea m.el m.ep, .int .i64 m.cf, .int .i64 m.cb, .slice m.sa m.sl m.sp, .slice m.xa m.xl m.xp]
theorem MsAt.new (w : World) (m : Ms) : MsAt (w.alloc (.cells m.cells.toArray 51)) w.heap.size m := by
  intro j u hu
  rw [cell_at (heap_alloc_new w _)]
  simpa using hu
/-- The cells of a message. -/
def MsC (b : Nat) (m : Ms) (W : World) : Prop := W.cell? ⟨b, 0, none⟩ = some (.int .i64 m.k) ∧ W.cell? ⟨b, 1, none⟩ = some (.int .i64 m.f) ∧ W.cell? ⟨b, 2, none⟩ = some (.int .i64 m.t) ∧ W.cell? ⟨b, 3, none⟩ = some (.int .i64 m.v) ∧ W.cell? ⟨b, 4, none⟩ = some (.int .i64 m.n) ∧ W.cell? ⟨b, 5, none⟩ = some (.int .i64 m.c) ∧ W.cell? ⟨b, 6, none⟩ = some (.int .i64 m.o) ∧ W.cell? ⟨b, 7, none⟩ = some (.int .i64 m.l) ∧ W.cell? ⟨b, 8, none⟩ = some (.int .i64 m.q) ∧ W.cell? ⟨b, 9, none⟩ = some (.bool m.h) ∧ W.cell? ⟨b, 10, none⟩ = some (.int .i64 m.ok) ∧ W.cell? ⟨b, 11, none⟩ = some (.string m.onm) ∧ W.cell? ⟨b, 12, none⟩ = some (.string m.otx) ∧ W.cell? ⟨b, 13, none⟩ = some (.int .i64 m.on) ∧ W.cell? ⟨b, 14, none⟩ = some (.int .i64 m.om) ∧ W.cell? ⟨b, 15, none⟩ = some (.int .i64 m.rc) ∧ W.cell? ⟨b, 16, none⟩ = some (.int .i64 m.rn) ∧ W.cell? ⟨b, 17, none⟩ = some (.slice m.ra m.rl m.rp) ∧ W.cell? ⟨b, 18, none⟩ = some (.slice m.ea m.el m.ep) ∧ W.cell? ⟨b, 19, none⟩ = some (.int .i64 m.cf) ∧ W.cell? ⟨b, 20, none⟩ = some (.int .i64 m.cb) ∧ W.cell? ⟨b, 21, none⟩ = some (.slice m.sa m.sl m.sp) ∧ W.cell? ⟨b, 22, none⟩ = some (.slice m.xa m.xl m.xp)
theorem MsAt.all {W : World} {b : Nat} {m : Ms} (h : MsAt W b m) : MsC b m W := ⟨h 0 _ rfl, h 1 _ rfl, h 2 _ rfl, h 3 _ rfl, h 4 _ rfl, h 5 _ rfl, h 6 _ rfl, h 7 _ rfl, h 8 _ rfl, h 9 _ rfl, h 10 _ rfl, h 11 _ rfl, h 12 _ rfl, h 13 _ rfl, h 14 _ rfl, h 15 _ rfl, h 16 _ rfl, h 17 _ rfl, h 18 _ rfl, h 19 _ rfl, h 20 _ rfl, h 21 _ rfl, h 22 _ rfl⟩

end Go.Proofs.YtdhkdniddjnigaaGreatDoor

namespace Go.Proofs.YtdhkdniddjnigaaGreatDoor
open Go.RowKit
set_option linter.unusedVariables false

/-- What opsMayBe tells. -/
def opsB (f b : Int) (xl : Nat) : Bool := decide (0 ≤ f ∧ f ≤ b ∧ (xl : Int) ≤ 64 ∧ b ≤ 1099511627776 - (xl : Int))
/-- A cargo as a value. -/
abbrev cgV (f b : Int) (sa : Option Addr) (sl sp : Nat) (xa : Option Addr) (xl xp : Nat) : Value := .agg #[.int .i64 f, .int .i64 b, .slice sa sl sp, .slice xa xl xp]
set_option maxRecDepth 1000000 in
theorem ops_any {w : World} (f b : Int) (sa : Option Addr) (sl sp : Nat) (xa : Option Addr) (xl xp : Nat) : Calls Tryz.prog 197 #[cgV f b sa sl sp xa xl xp] w fun e w' => e = .returned (.bool (opsB f b xl)) ∧ Below w.heap.size w w' := by
  by_cases c0 : 0 ≤ f
  rotate_left
  · have F : Hid (opsB f b xl = false) := hid (by simp only [opsB, decide_eq_false_iff_not]; omega)
    have e0 : decide (0 ≤ f) = false := by simpa using c0
    clear c0
    go_enter Tryz.func197, Tryz.ntmps197
    go_wp2
    go_ret
    exact ⟨by rw [F.out]; rfl, ba _ _⟩
  have e0 : decide (0 ≤ f) = true := by simpa using c0
  by_cases c1 : f ≤ b
  rotate_left
  · have F : Hid (opsB f b xl = false) := hid (by simp only [opsB, decide_eq_false_iff_not]; omega)
    have e1 : decide (f ≤ b) = false := by simpa using c1
    clear c1
    go_enter Tryz.func197, Tryz.ntmps197
    go_wp2
    go_ret
    exact ⟨by rw [F.out]; rfl, ba _ _⟩
  have e1 : decide (f ≤ b) = true := by simpa using c1
  by_cases c2 : (xl : Int) ≤ 64
  rotate_left
  · have F : Hid (opsB f b xl = false) := hid (by simp only [opsB, decide_eq_false_iff_not]; omega)
    have e2 : decide ((xl : Int) ≤ 64) = false := by simpa using c2
    clear c2
    go_enter Tryz.func197, Tryz.ntmps197
    go_wp2
    go_ret
    exact ⟨by rw [F.out]; rfl, ba _ _⟩
  have e2 : decide ((xl : Int) ≤ 64) = true := by simpa using c2
  have hs : IntKind.i64.wrap (1099511627776 - (xl : Int)) = 1099511627776 - (xl : Int) := by rw [IntKind.wrap_i64]; omega
  by_cases c3 : b ≤ 1099511627776 - (xl : Int)
  rotate_left
  · have F : Hid (opsB f b xl = false) := hid (by simp only [opsB, decide_eq_false_iff_not]; omega)
    have e3 : decide (b ≤ 1099511627776 - (xl : Int)) = false := by simpa using c3
    clear c0 c1 c2 c3
    go_enter Tryz.func197, Tryz.ntmps197
    go_wp2
    go_ret
    exact ⟨by rw [F.out]; rfl, ba _ _⟩
  have e3 : decide (b ≤ 1099511627776 - (xl : Int)) = true := by simpa using c3
  have F : Hid (opsB f b xl = true) := hid (by simp only [opsB, decide_eq_true_eq]; omega)
  clear c0 c1 c2 c3
  go_enter Tryz.func197, Tryz.ntmps197
  go_wp2
  go_ret
  exact ⟨by rw [F.out]; rfl, ba _ _⟩
end Go.Proofs.YtdhkdniddjnigaaGreatDoor

namespace Go.Proofs.YtdhkdniddjnigaaGreatDoor
open Go.RowKit
set_option linter.unusedVariables false

/-- An entry. -/
structure Ent where
  c : Int
  n : Int
  k : Int
  nm : ByteArray
  tx : ByteArray
  m : Int
  q : Int
def Ent.cells (e : Ent) : List Value := [.int .i64 e.c, .int .i64 e.n, .int .i64 e.k, .string e.nm, .string e.tx, .int .i64 e.m, .int .i64 e.q]
abbrev Ent.V (e : Ent) : Value := .agg #[.int .i64 e.c, .int .i64 e.n, .int .i64 e.k, .string e.nm, .string e.tx, .int .i64 e.m, .int .i64 e.q]
/-- Entries that are read. -/
def Ents (w : World) (ao : Option Addr) (l : List Ent) : Prop := ∀ (i : Nat) (x : Ent), l[i]? = some x → ∃ g o, ao = some ⟨g, o, none⟩ ∧ g < w.heap.size ∧ ∀ j u, x.cells[j]? = some u → w.cell? ⟨g, o + i * 7 + j, none⟩ = some u
theorem Ents.later {w w' : World} {ao : Option Addr} {l : List Ent} (h : Ents w ao l) (hb : Below w.heap.size w w') : Ents w' ao l := by
  intro i x hx
  obtain ⟨g, o, ea, hg, hc⟩ := h i x hx
  exact ⟨g, o, ea, Nat.lt_of_lt_of_le hg hb.size, fun j u hu => cell_under hb hg (hc j u hu)⟩
/-- May an entry be? -/
def entB (x : Ent) : Bool := decide (0 ≤ x.c ∧ x.c ≤ 7 ∧ 1 ≤ x.n ∧ x.n ≤ 1099511627776 ∧ chkA x.k x.nm.size x.tx.size x.m x.q = 0)
set_option maxHeartbeats 1600000 in
set_option maxRecDepth 1000000 in
theorem ents_any {w : World} (hT : Tab w) {ao : Option Addr} {l : List Ent} (h : Ents w ao l) (cp : Nat) (hl : l.length ≤ 9223372036854775807) : Calls Tryz.prog 199 #[.slice ao l.length cp] w fun e w' => e = .returned (.bool (l.all entB)) ∧ Below w.heap.size w w' := by
  have HE := hid h
  have HT := hid hT
  clear h hT
  go_enter Tryz.func199, Tryz.ntmps199
  go_wp2
  go_loopw [7] (fun iv wr => ∃ k : Nat, iv = .int .i64 (k : Int) ∧ k ≤ l.length ∧ Hid (∀ j (hj : j < k) (hl : j < l.length), entB l[j] = true) ∧ Hid (Below w.heap.size w wr)) (fun iv _ => l.length - (intOf iv).toNat)
  case atStart => exact ⟨0, rfl, Nat.zero_le _, fun j hj => absurd hj (by omega), hid (Below.refl _ _)⟩
  case round =>
    obtain ⟨k, rfl, hk, hbef, hB⟩ := hrel
    by_cases hlt : k < l.length
    · obtain ⟨x, hx⟩ : ∃ x, Hid (l[k]'hlt = x) := ⟨_, hid rfl⟩
      obtain ⟨g, o, ea, hg, hc⟩ := (HE.out.later hB.out) k x (by rw [List.getElem?_eq_getElem hlt, hx.out])
      subst ea
      have el : decide ((k : Int) < (l.length : Int)) = true := by simpa using hlt
      have r0 : wr.cell? ⟨g, o + k * 7, none⟩ = some (.int .i64 x.c) := hc 0 _ rfl
      have r1 : wr.cell? ⟨g, o + k * 7 + 1, none⟩ = some (.int .i64 x.n) := hc 1 _ rfl
      have r2 : wr.cell? ⟨g, o + k * 7 + 2, none⟩ = some (.int .i64 x.k) := hc 2 _ rfl
      have r3 : wr.cell? ⟨g, o + k * 7 + 3, none⟩ = some (.string x.nm) := hc 3 _ rfl
      have r4 : wr.cell? ⟨g, o + k * 7 + 4, none⟩ = some (.string x.tx) := hc 4 _ rfl
      have r5 : wr.cell? ⟨g, o + k * 7 + 5, none⟩ = some (.int .i64 x.m) := hc 5 _ rfl
      have r6 : wr.cell? ⟨g, o + k * 7 + 6, none⟩ = some (.int .i64 x.q) := hc 6 _ rfl
      have BA : Hid (∀ ob, Below w.heap.size w (wr.alloc ob)) := hid (fun ob => hB.out.trans ((ba wr ob).mono hB.out.size))
      have CK : Hid (∀ W, Below w.heap.size w W → Calls Tryz.prog 169 #[opV x.k x.nm x.tx x.m x.q] W fun e w' => e = .returned (.int .i64 (chkA x.k x.nm.size x.tx.size x.m x.q)) ∧ Below w.heap.size w w') := hid (fun W hW => by
        refine (check_any (HT.out.below hW) x.k x.nm x.tx x.m x.q).mono ?_
        rintro e w' ⟨rfl, hb⟩
        exact ⟨rfl, hW.trans (hb.mono hW.size)⟩)
      have NO : Hid (entB x = false → l.all entB = false) := hid (fun hf => by
        rw [List.all_eq_false]
        exact ⟨x, by rw [← hx.out]; exact List.getElem_mem hlt, by simp [hf]⟩)
      clear hc hB
      by_cases c0 : x.c < 0
      · have F := hid (NO.out (by simp only [entB, decide_eq_false_iff_not]; omega))
        have e0 : decide (x.c < 0) = true := by simpa using c0
        clear c0
        go_wp2
        go_ret
        exact ⟨by rw [F.out]; rfl, BA.out _⟩
      have e0 : decide (x.c < 0) = false := by simpa using c0
      by_cases c1 : 8 ≤ x.c
      · have F := hid (NO.out (by simp only [entB, decide_eq_false_iff_not]; omega))
        have e1 : decide (8 ≤ x.c) = true := by simpa using c1
        clear c0 c1
        go_wp2
        go_ret
        exact ⟨by rw [F.out]; rfl, BA.out _⟩
      have e1 : decide (8 ≤ x.c) = false := by simpa using c1
      by_cases c2 : x.n < 1
      · have F := hid (NO.out (by simp only [entB, decide_eq_false_iff_not]; omega))
        have e2 : decide (x.n < 1) = true := by simpa using c2
        clear c0 c1 c2
        go_wp2
        go_ret
        exact ⟨by rw [F.out]; rfl, BA.out _⟩
      have e2 : decide (x.n < 1) = false := by simpa using c2
      by_cases c3 : 1099511627776 < x.n
      · have F := hid (NO.out (by simp only [entB, decide_eq_false_iff_not]; omega))
        have e3 : decide (1099511627776 < x.n) = true := by simpa using c3
        clear c0 c1 c2 c3
        go_wp2
        go_ret
        exact ⟨by rw [F.out]; rfl, BA.out _⟩
      have e3 : decide (1099511627776 < x.n) = false := by simpa using c3
      have Y : Hid (chkA x.k x.nm.size x.tx.size x.m x.q = 0 → entB x = true) := hid (fun h => by simp only [entB, decide_eq_true_eq]; omega)
      have N : Hid (chkA x.k x.nm.size x.tx.size x.m x.q ≠ 0 → entB x = false) := hid (fun h => by simp only [entB, decide_eq_false_iff_not]; omega)
      clear c0 c1 c2 c3
      generalize chkA x.k x.nm.size x.tx.size x.m x.q = z at CK Y N
      go_wp2_with (go_at_call 169; refine (CK.out _ (BA.out _)).mono ?_; rintro e w1 ⟨rfl, hB1⟩; have B1 := hid hB1; clear hB1; by_cases hz : (z != 0) = true)
      · have F := hid (NO.out (N.out (by simpa using hz)))
        go_wp2
        go_ret
        exact ⟨by rw [F.out]; rfl, B1.out⟩
      · have hz' : (z != 0) = false := by simpa using hz
        have F := hid (Y.out (by simpa using hz))
        clear hz
        go_wp2
        go_roundw
        case rel => exact ⟨k + 1, by go_num, by omega, fun j hj hl => by rcases Nat.lt_succ_iff_lt_or_eq.1 hj with h | h; exact hbef.out j h hl; subst h; rw [hx.out]; exact F.out, B1⟩
        case measure => simp [intOf]; omega
    · have el : decide ((k : Int) < (l.length : Int)) = false := by simp; omega
      go_wp2
      go_ret
      exact ⟨by rw [List.all_eq_true.2]; rfl; intro y hy; obtain ⟨j, hj, rfl⟩ := List.getElem_of_mem hy; exact hbef.out j (by omega) hj, hB.out⟩
end Go.Proofs.YtdhkdniddjnigaaGreatDoor

namespace Go.Proofs.YtdhkdniddjnigaaGreatDoor
open Go.RowKit
set_option linter.unusedVariables false

/-- A sheet. -/
structure Sh where
  n : Int
  a : Int
  da : Option Addr
  dl : Nat
  dp : Nat
def Sh.cells (s : Sh) : List Value := [.int .i64 s.n, .int .i64 s.a, .slice s.da s.dl s.dp]
/-- Sheets that are read. -/
def Shs (w : World) (ao : Option Addr) (l : List Sh) : Prop := ∀ (i : Nat) (x : Sh), l[i]? = some x → ∃ g o, ao = some ⟨g, o, none⟩ ∧ g < w.heap.size ∧ ∀ j u, x.cells[j]? = some u → w.cell? ⟨g, o + i * 3 + j, none⟩ = some u
theorem Shs.later {w w' : World} {ao : Option Addr} {l : List Sh} (h : Shs w ao l) (hb : Below w.heap.size w w') : Shs w' ao l := by
  intro i x hx
  obtain ⟨g, o, ea, hg, hc⟩ := h i x hx
  exact ⟨g, o, ea, Nat.lt_of_lt_of_le hg hb.size, fun j u hu => cell_under hb hg (hc j u hu)⟩
/-- May sheets be, behind the last? -/
def shsB (f b : Int) : Int → List Sh → Bool
  | _, [] => true
  | p, s :: l => decide (p < s.n ∧ s.n ≤ 15 ∧ f < s.a ∧ s.a ≤ b ∧ (s.dl : Int) ≤ 2304) && shsB f b s.n l
set_option maxHeartbeats 1600000 in
set_option maxRecDepth 1000000 in
theorem sheets_any {w : World} (f b : Int) {sa : Option Addr} {l : List Sh} (h : Shs w sa l) (sp : Nat) (xa : Option Addr) (xl xp : Nat) (hl : l.length ≤ 9223372036854775807) : Calls Tryz.prog 198 #[cgV f b sa l.length sp xa xl xp] w fun e w' => e = .returned (.bool (shsB f b (-1) l)) ∧ Below w.heap.size w w' := by
  have HE := hid h
  clear h
  go_enter Tryz.func198, Tryz.ntmps198
  go_wp2
  have q0 : Hid ((w.alloc (.cells #[.int .i64 f, .int .i64 b, .slice sa l.length sp, .slice xa xl xp] 49)).cell? ⟨w.heap.size, 0, none⟩ = some (.int .i64 f)) := hid (by simp)
  have q1 : Hid ((w.alloc (.cells #[.int .i64 f, .int .i64 b, .slice sa l.length sp, .slice xa xl xp] 49)).cell? ⟨w.heap.size, 1, none⟩ = some (.int .i64 b)) := hid (by simp)
  have bw := hid (ba w (.cells #[.int .i64 f, .int .i64 b, .slice sa l.length sp, .slice xa xl xp] 49))
  have ws : Hid ((w.alloc (.cells #[.int .i64 f, .int .i64 b, .slice sa l.length sp, .slice xa xl xp] 49)).heap.size = w.heap.size + 1) := hid (by simp)
  obtain ⟨K, hK⟩ : ∃ K, Hid (K = w.heap.size) := ⟨_, hid rfl⟩
  rw [← hK.out] at q0 q1 ⊢
  generalize w.alloc (.cells #[.int .i64 f, .int .i64 b, .slice sa l.length sp, .slice xa xl xp] 49) = w0 at q0 q1 bw ws ⊢
  go_loopw [3, 9] (fun lv iv wr => ∃ (k : Nat) (p : Int), lv = .int .i64 p ∧ iv = .int .i64 (k : Int) ∧ k ≤ l.length ∧ Hid (shsB f b (-1) l = shsB f b p (l.drop k)) ∧ Hid (Below w0.heap.size w0 wr)) (fun _ iv _ => l.length - (intOf iv).toNat)
  case atStart => exact ⟨0, -1, rfl, rfl, Nat.zero_le _, hid rfl, hid (Below.refl _ _)⟩
  case round =>
    obtain ⟨k, p, rfl, rfl, hk, hS, hB⟩ := hrel
    have BW : Hid (∀ W, Below w0.heap.size w0 W → Below w.heap.size w W) := hid (fun W hW => bw.out.trans (hW.mono bw.out.size))
    by_cases hlt : k < l.length
    · obtain ⟨x, hx⟩ : ∃ x, Hid (l[k]'hlt = x) := ⟨_, hid rfl⟩
      obtain ⟨g, o, ea, hg, hc⟩ := ((HE.out.later bw.out).later hB.out) k x (by rw [List.getElem?_eq_getElem hlt, hx.out])
      subst ea
      have el : decide ((k : Int) < (l.length : Int)) = true := by simpa using hlt
      have r0 : wr.cell? ⟨g, o + k * 3, none⟩ = some (.int .i64 x.n) := hc 0 _ rfl
      have r1 : wr.cell? ⟨g, o + k * 3 + 1, none⟩ = some (.int .i64 x.a) := hc 1 _ rfl
      have r2 : wr.cell? ⟨g, o + k * 3 + 2, none⟩ = some (.slice x.da x.dl x.dp) := hc 2 _ rfl
      have t0 : wr.cell? ⟨K, 0, none⟩ = some (.int .i64 f) := cell_under hB.out (by rw [ws.out]; have := hK.out; show K < _; omega) q0.out
      have t1 : wr.cell? ⟨K, 1, none⟩ = some (.int .i64 b) := cell_under hB.out (by rw [ws.out]; have := hK.out; show K < _; omega) q1.out
      have hKw : K < wr.heap.size := by have := hK.out; have := ws.out; have := hB.out.size; omega
      have BA : Hid (∀ ob, Below w0.heap.size w0 (wr.alloc ob)) := hid (fun ob => hB.out.trans ((ba wr ob).mono hB.out.size))
      have ST : Hid (shsB f b (-1) l = (decide (p < x.n ∧ x.n ≤ 15 ∧ f < x.a ∧ x.a ≤ b ∧ (x.dl : Int) ≤ 2304) && shsB f b x.n (l.drop (k + 1)))) := hid (by rw [hS.out, List.drop_eq_getElem_cons hlt, hx.out]; rfl)
      clear hc hB hS
      by_cases c0 : x.n ≤ p
      · have F : Hid (shsB f b (-1) l = false) := hid (by rw [ST.out, decide_eq_false (by omega)]; rfl)
        have e0 : decide (x.n ≤ p) = true := by simpa using c0
        clear c0
        go_wp2
        go_ret
        exact ⟨by rw [F.out]; rfl, BW.out _ (BA.out _)⟩
      have e0 : decide (x.n ≤ p) = false := by simpa using c0
      by_cases c1 : 16 ≤ x.n
      · have F : Hid (shsB f b (-1) l = false) := hid (by rw [ST.out, decide_eq_false (by omega)]; rfl)
        have e1 : decide (16 ≤ x.n) = true := by simpa using c1
        clear c0 c1
        go_wp2
        go_ret
        exact ⟨by rw [F.out]; rfl, BW.out _ (BA.out _)⟩
      have e1 : decide (16 ≤ x.n) = false := by simpa using c1
      by_cases c2 : x.a ≤ f
      · have F : Hid (shsB f b (-1) l = false) := hid (by rw [ST.out, decide_eq_false (by omega)]; rfl)
        have e2 : decide (x.a ≤ f) = true := by simpa using c2
        clear c0 c1 c2
        go_wp2
        go_ret
        exact ⟨by rw [F.out]; rfl, BW.out _ (BA.out _)⟩
      have e2 : decide (x.a ≤ f) = false := by simpa using c2
      by_cases c3 : b < x.a
      · have F : Hid (shsB f b (-1) l = false) := hid (by rw [ST.out, decide_eq_false (by omega)]; rfl)
        have e3 : decide (b < x.a) = true := by simpa using c3
        clear c0 c1 c2 c3
        go_wp2
        go_ret
        exact ⟨by rw [F.out]; rfl, BW.out _ (BA.out _)⟩
      have e3 : decide (b < x.a) = false := by simpa using c3
      by_cases c4 : (2304 : Int) < (x.dl : Int)
      · have F : Hid (shsB f b (-1) l = false) := hid (by rw [ST.out, decide_eq_false (by omega)]; rfl)
        have e4 : decide ((2304 : Int) < (x.dl : Int)) = true := by simpa using c4
        clear c0 c1 c2 c3 c4
        go_wp2
        go_ret
        exact ⟨by rw [F.out]; rfl, BW.out _ (BA.out _)⟩
      have e4 : decide ((2304 : Int) < (x.dl : Int)) = false := by simpa using c4
      have F : Hid (shsB f b (-1) l = shsB f b x.n (l.drop (k + 1))) := hid (by rw [ST.out, decide_eq_true (by omega), Bool.true_and])
      clear c0 c1 c2 c3 c4
      go_wp2
      go_roundw
      case rel => exact ⟨k + 1, x.n, rfl, by go_num, by omega, F, hid (BA.out _)⟩
      case measure => simp [intOf]; omega
    · have el : decide ((k : Int) < (l.length : Int)) = false := by simp; omega
      have F : Hid (shsB f b (-1) l = true) := hid (by rw [hS.out, List.drop_of_length_le (by omega)]; rfl)
      go_wp2
      go_ret
      exact ⟨by rw [F.out]; rfl, BW.out _ hB.out⟩
end Go.Proofs.YtdhkdniddjnigaaGreatDoor

namespace Go.Proofs.YtdhkdniddjnigaaGreatDoor
open Go.RowKit
set_option linter.unusedVariables false

/-- May a cargo be? -/
def cgB (f b : Int) (ls : List Sh) (le : List Ent) : Bool := opsB f b le.length && (shsB f b (-1) ls && le.all entB)
def cgE (z : Bool) : Int := if z then 0 else 100
set_option maxHeartbeats 1600000 in
set_option maxRecDepth 1000000 in
theorem cargo_any {w : World} (hT : Tab w) (f b : Int) {sa xa : Option Addr} {ls : List Sh} {le : List Ent} (hs : Shs w sa ls) (he : Ents w xa le) (sp xp : Nat) (hls : ls.length ≤ 9223372036854775807) (hle : le.length ≤ 9223372036854775807) : Calls Tryz.prog 172 #[cgV f b sa ls.length sp xa le.length xp] w fun e w' => e = .returned (.int .i64 (cgE (cgB f b ls le))) ∧ Below w.heap.size w w' := by
  obtain ⟨w0, hw0⟩ : ∃ w0, Hid (w.alloc (.cells #[.int .i64 f, .int .i64 b, .slice sa ls.length sp, .slice xa le.length xp] 49) = w0) := ⟨_, hid rfl⟩
  obtain ⟨K, hK⟩ : ∃ K, Hid (w.heap.size = K) := ⟨_, hid rfl⟩
  have Q0 : Hid (w0.cell? ⟨K, 0, none⟩ = some (.int .i64 f)) := hid (by rw [← hw0.out, ← hK.out]; simp)
  have Q1 : Hid (w0.cell? ⟨K, 1, none⟩ = some (.int .i64 b)) := hid (by rw [← hw0.out, ← hK.out]; simp)
  have Q2 : Hid (w0.cell? ⟨K, 2, none⟩ = some (.slice sa ls.length sp)) := hid (by rw [← hw0.out, ← hK.out]; simp)
  have Q3 : Hid (w0.cell? ⟨K, 3, none⟩ = some (.slice xa le.length xp)) := hid (by rw [← hw0.out, ← hK.out]; simp)
  have KW : Hid ((⟨K, 0, none⟩ : Addr).block < w0.heap.size) := hid (by rw [← hw0.out, ← hK.out]; simp)
  have bw : Hid (Below w.heap.size w w0) := hid (by rw [← hw0.out]; exact ba _ _)
  have BW : Hid (∀ W, Below w0.heap.size w0 W → Below w.heap.size w W) := hid (fun W hW => bw.out.trans (hW.mono bw.out.size))
  have C1 : Hid (∀ W, Below w0.heap.size w0 W → Calls Tryz.prog 197 #[cgV f b sa ls.length sp xa le.length xp] W fun e w' => e = .returned (.bool (opsB f b le.length)) ∧ Below w0.heap.size w0 w') := hid (fun W hW => (ops_any f b sa ls.length sp xa le.length xp).mono fun e w' ⟨h1, h2⟩ => ⟨h1, hW.trans (h2.mono hW.size)⟩)
  have C2 : Hid (∀ W, Below w0.heap.size w0 W → Calls Tryz.prog 198 #[cgV f b sa ls.length sp xa le.length xp] W fun e w' => e = .returned (.bool (shsB f b (-1) ls)) ∧ Below w0.heap.size w0 w') := hid (fun W hW => (sheets_any f b (hs.later (BW.out W hW)) sp xa le.length xp hls).mono fun e w' ⟨h1, h2⟩ => ⟨h1, hW.trans (h2.mono hW.size)⟩)
  have C3 : Hid (∀ W, Below w0.heap.size w0 W → Calls Tryz.prog 199 #[.slice xa le.length xp] W fun e w' => e = .returned (.bool (le.all entB)) ∧ Below w0.heap.size w0 w') := hid (fun W hW => (ents_any (hT.below (BW.out W hW)) (he.later (BW.out W hW)) xp hle).mono fun e w' ⟨h1, h2⟩ => ⟨h1, hW.trans (h2.mono hW.size)⟩)
  have E : Hid (cgB f b ls le = (opsB f b le.length && (shsB f b (-1) ls && le.all entB))) := hid rfl
  generalize opsB f b le.length = z1 at C1 E
  generalize shsB f b (-1) ls = z2 at C2 E
  generalize le.all entB = z3 at C3 E
  generalize cgB f b ls le = z at E ⊢
  clear hT hs he
  have q0 := Q0.out
  have q1 := Q1.out
  have q2 := Q2.out
  have q3 := Q3.out
  go_enter Tryz.func172, Tryz.ntmps172
  go_upto_region 1 with fail
  rw [hw0.out, hK.out]
  go_wp2_with fail
  refine (C1.out _ (Below.refl _ _)).mono ?_
  rintro e w1 ⟨rfl, B1⟩
  have B1 := hid B1
  clear q0 q1 q2 q3 hw0
  cases z1
  · have F : Hid (z = false) := hid (by rw [E.out]; rfl)
    go_wp2
    go_ret
    exact ⟨by rw [F.out]; rfl, BW.out _ B1.out⟩
  have q0 : w1.cell? ⟨K, 0, none⟩ = some (.int .i64 f) := cell_under B1.out KW.out Q0.out
  have q1 : w1.cell? ⟨K, 1, none⟩ = some (.int .i64 b) := cell_under B1.out KW.out Q1.out
  have q2 : w1.cell? ⟨K, 2, none⟩ = some (.slice sa ls.length sp) := cell_under B1.out KW.out Q2.out
  have q3 : w1.cell? ⟨K, 3, none⟩ = some (.slice xa le.length xp) := cell_under B1.out KW.out Q3.out
  go_wp2_with fail
  refine (C2.out _ B1.out).mono ?_
  rintro e w2 ⟨rfl, B2⟩
  have B2 := hid B2
  clear q0 q1 q2 q3
  cases z2
  · have F : Hid (z = false) := hid (by rw [E.out]; rfl)
    go_wp2
    go_ret
    exact ⟨by rw [F.out]; rfl, BW.out _ B2.out⟩
  have q3 : w2.cell? ⟨K, 3, none⟩ = some (.slice xa le.length xp) := cell_under B2.out KW.out Q3.out
  go_wp2_with fail
  refine (C3.out _ B2.out).mono ?_
  rintro e w3 ⟨rfl, B3⟩
  have B3 := hid B3
  clear q3
  cases z3
  · have F : Hid (z = false) := hid (by rw [E.out]; rfl)
    go_wp2
    go_ret
    exact ⟨by rw [F.out]; rfl, BW.out _ B3.out⟩
  · have F : Hid (z = true) := hid (by rw [E.out]; rfl)
    go_wp2
    go_ret
    exact ⟨by rw [F.out]; rfl, BW.out _ B3.out⟩
end Go.Proofs.YtdhkdniddjnigaaGreatDoor

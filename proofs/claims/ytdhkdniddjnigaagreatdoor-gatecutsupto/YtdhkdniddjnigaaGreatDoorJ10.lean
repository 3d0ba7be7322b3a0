import Derived.Test.YtdhkdniddjnigaaGreatDoorJ9
import Derived.Deep.MidRow
namespace Go.Proofs.YtdhkdniddjnigaaGreatDoor
open Go.RowKit
set_option linter.unusedVariables false

def Ms.zR (m : Ms) : Bool := decide (m.rc = 0 ∧ m.rn = 0 ∧ m.rl = 0)
def Ms.zG (m : Ms) : Bool := decide (m.cf = 0 ∧ m.cb = 0 ∧ m.sl = 0 ∧ m.xl = 0)
def Ms.zO (m : Ms) : Bool := decide (m.ok = 0 ∧ m.onm.toList = [] ∧ m.otx.toList = [] ∧ m.on = 0 ∧ m.om = 0)
set_option maxRecDepth 1000000 in
theorem zeroR {w : World} {b : Nat} {m : Ms} (h : MsAt w b m) : Calls Tryz.prog 128 #[.pointer (some ⟨b, 0, none⟩), .int .i32 82] w fun e w' => e = .returned (.bool m.zR) ∧ w' = w := by
  have k15 : w.cell? ⟨b, 15, none⟩ = some (.int .i64 m.rc) := h 15 _ rfl
  have k16 : w.cell? ⟨b, 16, none⟩ = some (.int .i64 m.rn) := h 16 _ rfl
  have k17 : w.cell? ⟨b, 17, none⟩ = some (.slice m.ra m.rl m.rp) := h 17 _ rfl
  clear h
  by_cases c0 : m.rc = 0
  rotate_left
  · have F : Hid (m.zR = false) := hid (decide_eq_false (by omega))
    have e0 : (m.rc == 0) = false := by simp; omega
    clear c0
    go_enter Tryz.func128, Tryz.ntmps128
    go_wp2
    go_ret
    exact ⟨by rw [F.out]; rfl, rfl⟩
  have e0 : (m.rc == 0) = true := by simp; omega
  by_cases c1 : m.rn = 0
  rotate_left
  · have F : Hid (m.zR = false) := hid (decide_eq_false (by omega))
    have e1 : (m.rn == 0) = false := by simp; omega
    clear c0 c1
    go_enter Tryz.func128, Tryz.ntmps128
    go_wp2
    go_ret
    exact ⟨by rw [F.out]; rfl, rfl⟩
  have e1 : (m.rn == 0) = true := by simp; omega
  by_cases c2 : m.rl = 0
  rotate_left
  · have F : Hid (m.zR = false) := hid (decide_eq_false (by omega))
    have e2 : ((m.rl : Int) == 0) = false := by simp; omega
    clear c0 c1 c2
    go_enter Tryz.func128, Tryz.ntmps128
    go_wp2
    go_ret
    exact ⟨by rw [F.out]; rfl, rfl⟩
  have e2 : ((m.rl : Int) == 0) = true := by simp; omega
  have F : Hid (m.zR = true) := hid (decide_eq_true (by omega))
  clear c0 c1 c2
  go_enter Tryz.func128, Tryz.ntmps128
  go_wp2
  go_ret
  exact ⟨by rw [F.out]; rfl, rfl⟩
set_option maxRecDepth 1000000 in
theorem zeroG {w : World} {b : Nat} {m : Ms} (h : MsAt w b m) : Calls Tryz.prog 128 #[.pointer (some ⟨b, 0, none⟩), .int .i32 71] w fun e w' => e = .returned (.bool m.zG) ∧ w' = w := by
  have k19 : w.cell? ⟨b, 19, none⟩ = some (.int .i64 m.cf) := h 19 _ rfl
  have k20 : w.cell? ⟨b, 20, none⟩ = some (.int .i64 m.cb) := h 20 _ rfl
  have k21 : w.cell? ⟨b, 21, none⟩ = some (.slice m.sa m.sl m.sp) := h 21 _ rfl
  have k22 : w.cell? ⟨b, 22, none⟩ = some (.slice m.xa m.xl m.xp) := h 22 _ rfl
  clear h
  by_cases c0 : m.cf = 0
  rotate_left
  · have F : Hid (m.zG = false) := hid (decide_eq_false (by omega))
    have e0 : (m.cf == 0) = false := by simp; omega
    clear c0
    go_enter Tryz.func128, Tryz.ntmps128
    go_wp2
    go_ret
    exact ⟨by rw [F.out]; rfl, rfl⟩
  have e0 : (m.cf == 0) = true := by simp; omega
  by_cases c1 : m.cb = 0
  rotate_left
  · have F : Hid (m.zG = false) := hid (decide_eq_false (by omega))
    have e1 : (m.cb == 0) = false := by simp; omega
    clear c0 c1
    go_enter Tryz.func128, Tryz.ntmps128
    go_wp2
    go_ret
    exact ⟨by rw [F.out]; rfl, rfl⟩
  have e1 : (m.cb == 0) = true := by simp; omega
  by_cases c2 : m.sl = 0
  rotate_left
  · have F : Hid (m.zG = false) := hid (decide_eq_false (by omega))
    have e2 : ((m.sl : Int) == 0) = false := by simp; omega
    clear c0 c1 c2
    go_enter Tryz.func128, Tryz.ntmps128
    go_wp2
    go_ret
    exact ⟨by rw [F.out]; rfl, rfl⟩
  have e2 : ((m.sl : Int) == 0) = true := by simp; omega
  by_cases c3 : m.xl = 0
  rotate_left
  · have F : Hid (m.zG = false) := hid (decide_eq_false (by omega))
    have e3 : ((m.xl : Int) == 0) = false := by simp; omega
    clear c0 c1 c2 c3
    go_enter Tryz.func128, Tryz.ntmps128
    go_wp2
    go_ret
    exact ⟨by rw [F.out]; rfl, rfl⟩
  have e3 : ((m.xl : Int) == 0) = true := by simp; omega
  have F : Hid (m.zG = true) := hid (decide_eq_true (by omega))
  clear c0 c1 c2 c3
  go_enter Tryz.func128, Tryz.ntmps128
  go_wp2
  go_ret
  exact ⟨by rw [F.out]; rfl, rfl⟩
set_option maxRecDepth 1000000 in
theorem zeroO {w : World} {b : Nat} {m : Ms} (h : MsAt w b m) : Calls Tryz.prog 128 #[.pointer (some ⟨b, 0, none⟩), .int .i32 79] w fun e w' => e = .returned (.bool m.zO) ∧ w' = w := by
  have k10 : w.cell? ⟨b, 10, none⟩ = some (.int .i64 m.ok) := h 10 _ rfl
  have k11 : w.cell? ⟨b, 11, none⟩ = some (.string m.onm) := h 11 _ rfl
  have k12 : w.cell? ⟨b, 12, none⟩ = some (.string m.otx) := h 12 _ rfl
  have k13 : w.cell? ⟨b, 13, none⟩ = some (.int .i64 m.on) := h 13 _ rfl
  have k14 : w.cell? ⟨b, 14, none⟩ = some (.int .i64 m.om) := h 14 _ rfl
  clear h
  go_enter Tryz.func128, Tryz.ntmps128
  go_wp2
  all_goals
    go_ret
    exact ⟨by simp [Ms.zO, *], rfl⟩
end Go.Proofs.YtdhkdniddjnigaaGreatDoor

namespace Go.Proofs.YtdhkdniddjnigaaGreatDoor
open Go.RowKit
set_option linter.unusedVariables false

/-- The lists of a message, as they are read. -/
structure Ml (w : World) (m : Ms) (li : List ByteArray) (le : List Ent) (ls : List Sh) (lx : List Ent) : Prop where
  it : Txts w (.slice m.ra m.rl m.rp) li
  en : Ents w m.ea le
  sh : Shs w m.sa ls
  ex : Ents w m.xa lx
  nr : m.rl = li.length
  ne : m.el = le.length
  ns : m.sl = ls.length
  nx : m.xl = lx.length
  br : m.rl ≤ 9223372036854775807
  be : m.el ≤ 9223372036854775807
  bs : m.sl ≤ 9223372036854775807
  bx : m.xl ≤ 9223372036854775807
theorem Ml.later {w w' : World} {m : Ms} {li : List ByteArray} {le lx : List Ent} {ls : List Sh} (h : Ml w m li le ls lx) (hb : Below w.heap.size w w') : Ml w' m li le ls lx :=
  ⟨h.it.later hb, h.en.later hb, h.sh.later hb, h.ex.later hb, h.nr, h.ne, h.ns, h.nx, h.br, h.be, h.bs, h.bx⟩

set_option maxRecDepth 1000000 in
theorem mayR {w : World} {b : Nat} {m : Ms} {li : List ByteArray} {le lx : List Ent} {ls : List Sh} (h : MsAt w b m) (hl : Ml w m li le ls lx) : Calls Tryz.prog 126 #[.pointer (some ⟨b, 0, none⟩), .int .i32 82] w fun e w' => e = .returned (.bool (chkX m.rc m.rn li == 0)) ∧ Below w.heap.size w w' := by
  have k15 : w.cell? ⟨b, 15, none⟩ = some (.int .i64 m.rc) := h 15 _ rfl
  have k16 : w.cell? ⟨b, 16, none⟩ = some (.int .i64 m.rn) := h 16 _ rfl
  have k17 : w.cell? ⟨b, 17, none⟩ = some (.slice m.ra m.rl m.rp) := h 17 _ rfl
  have C : Hid (Calls Tryz.prog 98 #[resV m.rc m.rn (.slice m.ra m.rl m.rp)] w fun e w' => e = .returned (.int .i64 (chkX m.rc m.rn li)) ∧ Below w.heap.size w w') := hid (checkX_any m.rc m.rn hl.it (by have := hl.nr; have := hl.br; omega))
  generalize chkX m.rc m.rn li = z at C ⊢
  clear h hl
  go_enter Tryz.func126, Tryz.ntmps126
  go_wp2_with fail
  refine C.out.mono ?_
  rintro e w1 ⟨rfl, B1⟩
  have B1 := hid B1
  go_wp2
  go_ret
  exact ⟨rfl, B1.out⟩
set_option maxRecDepth 1000000 in
theorem mayG {w : World} {b : Nat} {m : Ms} {li : List ByteArray} {le lx : List Ent} {ls : List Sh} (hT : Tab w) (h : MsAt w b m) (hl : Ml w m li le ls lx) : Calls Tryz.prog 126 #[.pointer (some ⟨b, 0, none⟩), .int .i32 71] w fun e w' => e = .returned (.bool (cgB m.cf m.cb ls lx)) ∧ Below w.heap.size w w' := by
  have k19 : w.cell? ⟨b, 19, none⟩ = some (.int .i64 m.cf) := h 19 _ rfl
  have k20 : w.cell? ⟨b, 20, none⟩ = some (.int .i64 m.cb) := h 20 _ rfl
  have k21 : w.cell? ⟨b, 21, none⟩ = some (.slice m.sa m.sl m.sp) := h 21 _ rfl
  have k22 : w.cell? ⟨b, 22, none⟩ = some (.slice m.xa m.xl m.xp) := h 22 _ rfl
  have C : Hid (Calls Tryz.prog 172 #[cgV m.cf m.cb m.sa m.sl m.sp m.xa m.xl m.xp] w fun e w' => e = .returned (.int .i64 (cgE (cgB m.cf m.cb ls lx))) ∧ Below w.heap.size w w') := hid (by
    have := cargo_any hT m.cf m.cb hl.sh hl.ex m.sp m.xp (by have := hl.ns; have := hl.bs; omega) (by have := hl.nx; have := hl.bx; omega)
    rw [← hl.ns, ← hl.nx] at this
    exact this)
  generalize cgB m.cf m.cb ls lx = z at C ⊢
  have hz : Hid (z = (cgE z == 0)) := hid (by cases z <;> rfl)
  generalize cgE z = y at C hz
  clear h hl hT
  go_enter Tryz.func126, Tryz.ntmps126
  go_wp2_with fail
  refine C.out.mono ?_
  rintro e w1 ⟨rfl, B1⟩
  have B1 := hid B1
  go_wp2
  go_ret
  exact ⟨by rw [hz.out]; rfl, B1.out⟩
/-- May the op be? -/
def Ms.oB (m : Ms) : Bool := decide (chkA m.ok m.onm.size m.otx.size m.on m.om = 0) && (decide (m.k ≠ 14) || decide (6 ≤ m.ok ∧ m.ok ≤ 8))
set_option maxRecDepth 1000000 in
theorem mayOO {w : World} {b : Nat} {m : Ms} (hT : Tab w) (h : MsAt w b m) : Calls Tryz.prog 126 #[.pointer (some ⟨b, 0, none⟩), .int .i32 79] w fun e w' => e = .returned (.bool m.oB) ∧ Below w.heap.size w w' := by
  have C : Hid (Calls Tryz.prog 169 #[opV m.ok m.onm m.otx m.on m.om] w fun e w' => e = .returned (.int .i64 (chkA m.ok m.onm.size m.otx.size m.on m.om)) ∧ Below w.heap.size w w') := hid (check_any hT m.ok m.onm m.otx m.on m.om)
  have CQ : Hid (∀ W : World, Calls Tryz.prog 170 #[.int .i64 m.ok] W fun e w' => e = .returned (.bool (decide (6 ≤ m.ok ∧ m.ok ≤ 8))) ∧ w' = W) := hid (fun W => query_any m.ok)
  have E : Hid (m.oB = (decide (chkA m.ok m.onm.size m.otx.size m.on m.om = 0) && (decide (m.k ≠ 14) || decide (6 ≤ m.ok ∧ m.ok ≤ 8)))) := hid rfl
  have HM := hid h
  have k10 : w.cell? ⟨b, 10, none⟩ = some (.int .i64 m.ok) := h 10 _ rfl
  have k11 : w.cell? ⟨b, 11, none⟩ = some (.string m.onm) := h 11 _ rfl
  have k12 : w.cell? ⟨b, 12, none⟩ = some (.string m.otx) := h 12 _ rfl
  have k13 : w.cell? ⟨b, 13, none⟩ = some (.int .i64 m.on) := h 13 _ rfl
  have k14 : w.cell? ⟨b, 14, none⟩ = some (.int .i64 m.om) := h 14 _ rfl
  generalize chkA m.ok m.onm.size m.otx.size m.on m.om = z at C E
  generalize decide (6 ≤ m.ok ∧ m.ok ≤ 8) = y at CQ E
  generalize m.oB = x at E ⊢
  clear h hT
  go_enter Tryz.func126, Tryz.ntmps126
  go_wp2_with fail
  refine C.out.mono ?_
  rintro e w1 ⟨rfl, B1⟩
  have h1 := HM.out.under B1
  have B1 := hid B1
  clear k10 k11 k12 k13 k14 C
  have k0 : w1.cell? ⟨b, 0, none⟩ = some (.int .i64 m.k) := h1 0 _ rfl
  have k10 : w1.cell? ⟨b, 10, none⟩ = some (.int .i64 m.ok) := h1 10 _ rfl
  clear h1
  by_cases hz : z = 0
  rotate_left
  · have F : Hid (x = false) := hid (by rw [E.out, decide_eq_false hz]; rfl)
    have ez : (z == 0) = false := by simpa using hz
    clear hz
    go_wp2
    go_ret
    exact ⟨by rw [F.out]; rfl, B1.out⟩
  have ez : (z == 0) = true := by simpa using hz
  by_cases h14 : m.k = 14
  rotate_left
  · have F : Hid (x = true) := hid (by rw [E.out, decide_eq_true hz, decide_eq_true h14]; rfl)
    have e14 : (m.k != 14) = true := by simpa using h14
    clear hz h14
    go_wp2
    go_ret
    exact ⟨by rw [F.out]; rfl, B1.out⟩
  have F : Hid (x = y) := hid (by rw [E.out, decide_eq_true hz, decide_eq_false (by simpa using h14)]; simp)
  have e14 : (m.k != 14) = false := by simpa using h14
  clear hz h14
  go_wp2_with (go_at_call 170; refine (CQ.out _).mono ?_; rintro e w' ⟨rfl, rfl⟩)
  go_ret
  exact ⟨by rw [F.out]; rfl, B1.out⟩
end Go.Proofs.YtdhkdniddjnigaaGreatDoor

namespace Go.Proofs.YtdhkdniddjnigaaGreatDoor
open Go.RowKit
set_option linter.unusedVariables false

/-- May the entries be? -/
def Ms.eB (m : Ms) (le : List Ent) : Bool := inR (m.el : Int) 1 8 && cgB 0 (m.n - 1) [] le
set_option maxRecDepth 1000000 in
theorem ent107 {w : World} {b : Nat} {m : Ms} {li : List ByteArray} {le lx : List Ent} {ls : List Sh} (hT : Tab w) (h : MsAt w b m) (hl : Ml w m li le ls lx) (hn : 1 ≤ m.n ∧ m.n ≤ 1099511627776) : Calls Tryz.prog 171 #[.pointer (some ⟨b, 0, none⟩)] w fun e w' => e = .returned (.bool (m.eB le)) ∧ Below w.heap.size w w' := by
  have A0 := hid (All.came w)
  have SS : Hid (∀ W, All [inC w] W → W.cell? ⟨b, 4, none⟩ = some (.int .i64 m.n) ∧ W.cell? ⟨b, 18, none⟩ = some (.slice m.ea m.el m.ep)) := hid (fun W hW => by
    have hm := h.under (hW.into (w0 := w) (by simp))
    exact ⟨hm 4 _ rfl, hm 18 _ rfl⟩)
  have CW : Hid (∀ W : World, Calls Tryz.prog 124 #[.int .i64 (m.el : Int), .int .i64 1, .int .i64 8] W fun e w' => e = .returned (.bool (inR (m.el : Int) 1 8)) ∧ w' = W) := hid (fun W => within_b _ _ _)
  have CG : Hid (∀ W, All [inC w] W → Calls Tryz.prog 172 #[.agg #[.int .i64 0, .int .i64 (m.n - 1), .slice none 0 0, .slice m.ea m.el m.ep]] W fun e w' => e = .returned (.int .i64 (cgE (cgB 0 (m.n - 1) [] le))) ∧ All [inC w] w') := hid (fun W hW => by
    have hb := hW.into (w0 := w) (by simp)
    have := cargo_any (hT.below hb) 0 (m.n - 1) (sa := none) (ls := []) (fun i x hx => by simp at hx) (hl.en.later hb) 0 m.ep (by simp) (by have := hl.ne; have := hl.be; omega)
    rw [← hl.ne] at this
    refine this.mono ?_
    rintro e w' ⟨h1, h2⟩
    exact ⟨h1, hW.later h2⟩)
  have E : Hid (m.eB le = (inR (m.el : Int) 1 8 && cgB 0 (m.n - 1) [] le)) := hid rfl
  generalize inR (m.el : Int) 1 8 = z at CW E
  generalize cgB 0 (m.n - 1) [] le = y at CG E
  have hy : Hid (y = (cgE y == 0)) := hid (by cases y <;> rfl)
  generalize cgE y = v at CG hy
  generalize m.eB le = x at E ⊢
  have hw : IntKind.i64.wrap (m.n - 1) = m.n - 1 := by rw [IntKind.wrap_i64]; omega
  have p0 := hid (SS.out _ A0.out)
  obtain ⟨k4, k18⟩ := p0.out
  clear h hl hT hn
  cases z
  · have F : Hid (x = false) := hid (by rw [E.out]; rfl)
    go_enter Tryz.func171, Tryz.ntmps171
    go_wp2_with fail
    refine wp_region_held_drew (S := (fun W => W.cell? ⟨b, 4, none⟩ = some (.int .i64 m.n) ∧ W.cell? ⟨b, 18, none⟩ = some (.slice m.ea m.el m.ep))) (by kernel_rfl) (SS.out _ A0.out.drew) (fun hHeld => ?_)
    refine wpAnyH_take (i := 0) (oi := { dst := some 3, op := Go.Op.move (Go.Operand.tmp 0), type := 164, pos := "fields.go:119", after := #[], guard := none }) (v := ?_) rfl (by kernel_rfl) (by kernel_rfl) (by kernel_rfl) (fun _ _ _ h => h) (Or.inl ⟨by rfl, ?_⟩) hHeld ?_
    rotate_left
    · intro W hSw
      (try dsimp only at hSw)
      go_simp
      (try with_reducible rfl)
    (try simp only [Act.put, List.setIfInBounds_toArray, List.set_cons_zero, List.set_cons_succ])
    refine wpAnyH_take (i := 1) (oi := { dst := some 4, op := Go.Op.nilCheck (Go.Operand.tmp 3), type := 0, pos := "fields.go:119", after := #[{ on := 0, ground := Go.Ground.data }], guard := none }) (v := ?_) rfl (by kernel_rfl) (by kernel_rfl) (by kernel_rfl) (fun _ _ _ h => h) (Or.inl ⟨by rfl, ?_⟩) hHeld ?_
    rotate_left
    · intro W hSw
      (try dsimp only at hSw)
      go_simp
      (try with_reducible rfl)
    (try simp only [Act.put, List.setIfInBounds_toArray, List.set_cons_zero, List.set_cons_succ])
    refine wpAnyH_take (i := 2) (oi := { dst := some 5, op := Go.Op.fieldAddr 51 (Go.Operand.tmp 4) 12, type := 0, pos := "fields.go:119", after := #[{ on := 1, ground := Go.Ground.data }], guard := none }) (v := ?_) rfl (by kernel_rfl) (by kernel_rfl) (by kernel_rfl) (fun _ _ _ h => h) (Or.inl ⟨by rfl, ?_⟩) hHeld ?_
    rotate_left
    · intro W hSw
      (try dsimp only at hSw)
      go_simp
      (try with_reducible rfl)
    (try simp only [Act.put, List.setIfInBounds_toArray, List.set_cons_zero, List.set_cons_succ])
    refine wpAnyH_take (i := 3) (oi := { dst := some 6, op := Go.Op.load 46 (Go.Operand.tmp 5), type := 46, pos := "fields.go:119", after := #[{ on := 2, ground := Go.Ground.data }], guard := none }) (v := ?_) rfl (by kernel_rfl) (by kernel_rfl) (by kernel_rfl) (fun _ _ _ h => h) (Or.inl ⟨by rfl, ?_⟩) hHeld ?_
    rotate_left
    · intro W hSw
      (try dsimp only at hSw)
      go_simp
      (try with_reducible rfl)
    (try simp only [Act.put, List.setIfInBounds_toArray, List.set_cons_zero, List.set_cons_succ])
    refine wpAnyH_take (i := 4) (oi := { dst := some 7, op := Go.Op.call { callee := Go.Callee.builtin Go.Builtin.len, args := #[Go.Operand.tmp 6], argTypes := #[46] }, type := 3, pos := "fields.go:119", after := #[{ on := 3, ground := Go.Ground.data }], guard := none }) (v := ?_) rfl (by kernel_rfl) (by kernel_rfl) (by kernel_rfl) (fun _ _ _ h => h) (Or.inl ⟨by rfl, ?_⟩) hHeld ?_
    rotate_left
    · intro W hSw
      (try dsimp only at hSw)
      go_simp
      (try with_reducible rfl)
    (try simp only [Act.put, List.setIfInBounds_toArray, List.set_cons_zero, List.set_cons_succ])
    refine wpAnyH_ready (rs := [5]) (by kernel_rfl) (by simp) ?_
    refine AllReadyH.cons (o := { dst := some 8, op := Go.Op.call { callee := Go.Callee.value (Go.Operand.func 124), args := #[Go.Operand.tmp 7, Go.Operand.const (Go.Value.int Go.IntKind.i64 1), Go.Operand.const (Go.Value.int Go.IntKind.i64 8)], argTypes := #[3, 3, 3] }, type := 4, pos := "fields.go:119", after := #[{ on := 4, ground := Go.Ground.data }], guard := none }) rfl (fun K hK => ?_) AllReadyH.nil
    go_simp
    refine (CW.out _).mono ?_; rintro e w1 ⟨rfl, hw1⟩; have A1 := hid (A0.out.drew); rw [← hw1] at A1; have p1 := hid (SS.out _ A1.out); clear hw1
    refine hK.out _ _ p1.out (fun hHeld => ?_)
    clear hK K
    (try simp only [Act.put, List.setIfInBounds_toArray, List.set_cons_zero, List.set_cons_succ])
    refine wpAnyH_take (i := 6) (oi := { dst := some 9, op := Go.Op.move (Go.Operand.tmp 8), type := 4, pos := "fields.go:119", after := #[{ on := 5, ground := Go.Ground.data }, { on := 5, ground := Go.Ground.chain }], guard := none }) (v := ?_) rfl (by kernel_rfl) (by kernel_rfl) (by kernel_rfl) (fun _ _ _ h => h) (Or.inl ⟨by rfl, ?_⟩) hHeld ?_
    rotate_left
    · intro W hSw
      (try dsimp only at hSw)
      go_simp
      (try with_reducible rfl)
    (try simp only [Act.put, List.setIfInBounds_toArray, List.set_cons_zero, List.set_cons_succ])
    refine wpAnyH_take (i := 7) (oi := { dst := some 10, op := Go.Op.move (Go.Operand.tmp 0), type := 164, pos := "fields.go:119", after := #[{ on := 6, ground := Go.Ground.guard }], guard := some (6, true) }) (v := undef) rfl (by kernel_rfl) (by kernel_rfl) (by kernel_rfl) (fun _ _ _ h => h) (Or.inr ⟨by rfl, rfl⟩) hHeld ?_
    (try simp only [Act.put, List.setIfInBounds_toArray, List.set_cons_zero, List.set_cons_succ])
    refine wpAnyH_take (i := 8) (oi := { dst := some 11, op := Go.Op.nilCheck (Go.Operand.tmp 10), type := 0, pos := "fields.go:119", after := #[{ on := 7, ground := Go.Ground.data }, { on := 6, ground := Go.Ground.guard }], guard := some (6, true) }) (v := undef) rfl (by kernel_rfl) (by kernel_rfl) (by kernel_rfl) (fun _ _ _ h => h) (Or.inr ⟨by rfl, rfl⟩) hHeld ?_
    (try simp only [Act.put, List.setIfInBounds_toArray, List.set_cons_zero, List.set_cons_succ])
    refine wpAnyH_take (i := 9) (oi := { dst := some 12, op := Go.Op.fieldAddr 51 (Go.Operand.tmp 11) 4, type := 0, pos := "fields.go:119", after := #[{ on := 8, ground := Go.Ground.data }, { on := 6, ground := Go.Ground.guard }], guard := some (6, true) }) (v := undef) rfl (by kernel_rfl) (by kernel_rfl) (by kernel_rfl) (fun _ _ _ h => h) (Or.inr ⟨by rfl, rfl⟩) hHeld ?_
    (try simp only [Act.put, List.setIfInBounds_toArray, List.set_cons_zero, List.set_cons_succ])
    refine wpAnyH_take (i := 10) (oi := { dst := some 13, op := Go.Op.load 3 (Go.Operand.tmp 12), type := 3, pos := "fields.go:119", after := #[{ on := 9, ground := Go.Ground.data }, { on := 6, ground := Go.Ground.guard }], guard := some (6, true) }) (v := undef) rfl (by kernel_rfl) (by kernel_rfl) (by kernel_rfl) (fun _ _ _ h => h) (Or.inr ⟨by rfl, rfl⟩) hHeld ?_
    (try simp only [Act.put, List.setIfInBounds_toArray, List.set_cons_zero, List.set_cons_succ])
    refine wpAnyH_take (i := 11) (oi := { dst := some 14, op := Go.Op.binOp Go.BinOp.sub 3 (Go.Operand.tmp 13) (Go.Operand.const (Go.Value.int Go.IntKind.i64 1)) 3, type := 3, pos := "fields.go:119", after := #[{ on := 10, ground := Go.Ground.data }, { on := 6, ground := Go.Ground.guard }], guard := some (6, true) }) (v := undef) rfl (by kernel_rfl) (by kernel_rfl) (by kernel_rfl) (fun _ _ _ h => h) (Or.inr ⟨by rfl, rfl⟩) hHeld ?_
    (try simp only [Act.put, List.setIfInBounds_toArray, List.set_cons_zero, List.set_cons_succ])
    refine wpAnyH_take (i := 12) (oi := { dst := some 15, op := Go.Op.move (Go.Operand.tmp 0), type := 164, pos := "fields.go:119", after := #[{ on := 6, ground := Go.Ground.guard }], guard := some (6, true) }) (v := undef) rfl (by kernel_rfl) (by kernel_rfl) (by kernel_rfl) (fun _ _ _ h => h) (Or.inr ⟨by rfl, rfl⟩) hHeld ?_
    (try simp only [Act.put, List.setIfInBounds_toArray, List.set_cons_zero, List.set_cons_succ])
    refine wpAnyH_take (i := 13) (oi := { dst := some 16, op := Go.Op.nilCheck (Go.Operand.tmp 15), type := 0, pos := "fields.go:119", after := #[{ on := 12, ground := Go.Ground.data }, { on := 6, ground := Go.Ground.guard }], guard := some (6, true) }) (v := undef) rfl (by kernel_rfl) (by kernel_rfl) (by kernel_rfl) (fun _ _ _ h => h) (Or.inr ⟨by rfl, rfl⟩) hHeld ?_
    (try simp only [Act.put, List.setIfInBounds_toArray, List.set_cons_zero, List.set_cons_succ])
    refine wpAnyH_take (i := 14) (oi := { dst := some 17, op := Go.Op.fieldAddr 51 (Go.Operand.tmp 16) 12, type := 0, pos := "fields.go:119", after := #[{ on := 13, ground := Go.Ground.data }, { on := 6, ground := Go.Ground.guard }], guard := some (6, true) }) (v := undef) rfl (by kernel_rfl) (by kernel_rfl) (by kernel_rfl) (fun _ _ _ h => h) (Or.inr ⟨by rfl, rfl⟩) hHeld ?_
    (try simp only [Act.put, List.setIfInBounds_toArray, List.set_cons_zero, List.set_cons_succ])
    refine wpAnyH_take (i := 15) (oi := { dst := some 18, op := Go.Op.load 46 (Go.Operand.tmp 17), type := 46, pos := "fields.go:119", after := #[{ on := 14, ground := Go.Ground.data }, { on := 6, ground := Go.Ground.guard }], guard := some (6, true) }) (v := undef) rfl (by kernel_rfl) (by kernel_rfl) (by kernel_rfl) (fun _ _ _ h => h) (Or.inr ⟨by rfl, rfl⟩) hHeld ?_
    (try simp only [Act.put, List.setIfInBounds_toArray, List.set_cons_zero, List.set_cons_succ])
    refine wpAnyH_take (i := 16) (oi := { dst := some 19, op := Go.Op.build 49 #[(1, Go.Operand.tmp 14), (3, Go.Operand.tmp 18)], type := 49, pos := "fields.go:119", after := #[{ on := 11, ground := Go.Ground.data }, { on := 15, ground := Go.Ground.data }, { on := 6, ground := Go.Ground.guard }], guard := some (6, true) }) (v := undef) rfl (by kernel_rfl) (by kernel_rfl) (by kernel_rfl) (fun _ _ _ h => h) (Or.inr ⟨by rfl, rfl⟩) hHeld ?_
    (try simp only [Act.put, List.setIfInBounds_toArray, List.set_cons_zero, List.set_cons_succ])
    refine wpAnyH_take (i := 17) (oi := { dst := some 20, op := Go.Op.call { callee := Go.Callee.value (Go.Operand.func 172), args := #[Go.Operand.tmp 19], argTypes := #[49] }, type := 35, pos := "fields.go:119", after := #[{ on := 16, ground := Go.Ground.data }, { on := 6, ground := Go.Ground.chain }, { on := 6, ground := Go.Ground.guard }], guard := some (6, true) }) (v := undef) rfl (by kernel_rfl) (by kernel_rfl) (by kernel_rfl) (fun _ _ _ h => h) (Or.inr ⟨by rfl, rfl⟩) hHeld ?_
    (try simp only [Act.put, List.setIfInBounds_toArray, List.set_cons_zero, List.set_cons_succ])
    refine wpAnyH_take (i := 18) (oi := { dst := some 21, op := Go.Op.binOp Go.BinOp.eql 35 (Go.Operand.tmp 20) (Go.Operand.const (Go.Value.int Go.IntKind.i64 0)) 35, type := 4, pos := "fields.go:119", after := #[{ on := 17, ground := Go.Ground.data }, { on := 6, ground := Go.Ground.guard }], guard := some (6, true) }) (v := undef) rfl (by kernel_rfl) (by kernel_rfl) (by kernel_rfl) (fun _ _ _ h => h) (Or.inr ⟨by rfl, rfl⟩) hHeld ?_
    (try simp only [Act.put, List.setIfInBounds_toArray, List.set_cons_zero, List.set_cons_succ])
    refine wpAnyH_take (i := 19) (oi := { dst := some 22, op := Go.Op.pick (Go.Operand.tmp 9) (Go.Operand.tmp 21) (Go.Operand.const (Go.Value.bool false)), type := 4, pos := "fields.go:119", after := #[{ on := 6, ground := Go.Ground.data }, { on := 18, ground := Go.Ground.data }], guard := none }) (v := ?_) rfl (by kernel_rfl) (by kernel_rfl) (by kernel_rfl) (fun _ _ _ h => h) (Or.inl ⟨by rfl, ?_⟩) hHeld ?_
    rotate_left
    · intro W hSw
      (try dsimp only at hSw)
      go_simp
      (try with_reducible rfl)
    (try simp only [Act.put, List.setIfInBounds_toArray, List.set_cons_zero, List.set_cons_succ])
    refine wpAnyH_take (i := 20) (oi := { dst := some 2, op := Go.Op.assign (Go.Operand.tmp 22), type := 4, pos := "fields.go:119", after := #[{ on := 19, ground := Go.Ground.data }, { on := 17, ground := Go.Ground.chain }, { on := 0, ground := Go.Ground.phase }, { on := 1, ground := Go.Ground.phase }, { on := 2, ground := Go.Ground.phase }, { on := 3, ground := Go.Ground.phase }, { on := 4, ground := Go.Ground.phase }, { on := 5, ground := Go.Ground.phase }, { on := 6, ground := Go.Ground.phase }, { on := 7, ground := Go.Ground.phase }, { on := 8, ground := Go.Ground.phase }, { on := 9, ground := Go.Ground.phase }, { on := 10, ground := Go.Ground.phase }, { on := 11, ground := Go.Ground.phase }, { on := 12, ground := Go.Ground.phase }, { on := 13, ground := Go.Ground.phase }, { on := 14, ground := Go.Ground.phase }, { on := 15, ground := Go.Ground.phase }, { on := 16, ground := Go.Ground.phase }, { on := 17, ground := Go.Ground.phase }, { on := 18, ground := Go.Ground.phase }, { on := 19, ground := Go.Ground.phase }], guard := none }) (v := ?_) rfl (by kernel_rfl) (by kernel_rfl) (by kernel_rfl) (fun _ _ _ h => h) (Or.inl ⟨by rfl, ?_⟩) hHeld ?_
    rotate_left
    · intro W hSw
      (try dsimp only at hSw)
      go_simp
      (try with_reducible rfl)
    (try simp only [Act.put, List.setIfInBounds_toArray, List.set_cons_zero, List.set_cons_succ])
    refine wpAnyH_done (by kernel_rfl) ?_ _
    clear hHeld
    clear p0 p1 k4 k18
    go_wp2
    go_ret
    exact ⟨by rw [F.out]; rfl, A1.out.into (w0 := w) (by simp)⟩
  · have F : Hid (x = y) := hid (by rw [E.out]; rfl)
    go_enter Tryz.func171, Tryz.ntmps171
    go_wp2_with fail
    go_region_held3 (fun W => W.cell? ⟨b, 4, none⟩ = some (.int .i64 m.n) ∧ W.cell? ⟨b, 18, none⟩ = some (.slice m.ea m.el m.ep)) (first | exact p0.out | exact p1.out | exact p2.out)
      (first
        | (go_at_call 124; refine (CW.out _).mono ?_; rintro e w1 ⟨rfl, hw1⟩; have A1 := hid (A0.out.drew); rw [← hw1] at A1; have p1 := hid (SS.out _ A1.out); clear hw1)
        | (go_at_call 172; refine (CG.out _ A1.out).mono ?_; rintro e w2 ⟨rfl, hw2⟩; have A2 := hid hw2; have p2 := hid (SS.out _ A2.out); clear hw2))
    clear p0 p1 p2 k4 k18
    go_wp2
    go_ret
    exact ⟨by rw [F.out, hy.out]; rfl, A2.out.into (w0 := w) (by simp)⟩
end Go.Proofs.YtdhkdniddjnigaaGreatDoor

namespace Go.Proofs.YtdhkdniddjnigaaGreatDoor
open Go.RowKit Go.Lib
set_option linter.unusedVariables false

/-- The error of a letter. -/
def refN (r : Nat) : Int := if r = 86 then 113 else if r = 75 ∨ r = 67 ∨ r = 78 ∨ r = 76 ∨ r = 81 then 114 else 115
theorem refusal_any {w : World} (r : UInt8) (h : r ∈ allF.data.toList) : Calls Tryz.prog 127 #[.int .i32 (r.toNat : Int)] w fun e w' => e = .returned (.int .i64 (refN r.toNat)) ∧ w' = w := by
  have h : r ∈ [(86 : UInt8), 75, 67, 78, 76, 81, 72, 79, 82, 69, 71] := h
  simp only [List.mem_cons, List.not_mem_nil, or_false] at h
  rcases h with rfl | rfl | rfl | rfl | rfl | rfl | rfl | rfl | rfl | rfl | rfl
  all_goals
    go_enter Tryz.func127, Tryz.ntmps127
    go_wp2
    go_ret
    exact ⟨rfl, rfl⟩
theorem fld_in (k : Nat) (r : UInt8) (h : r ∈ fldN.getD k []) : r ∈ allF.data.toList := by
  have key : ∀ l ∈ fldN, ∀ r ∈ l, r ∈ allF.data.toList := by decide
  by_cases hk : k < fldN.length
  · rw [List.getD, List.getElem?_eq_getElem hk] at h
    exact key _ (List.getElem_mem hk) r h
  · rw [List.getD, List.getElem?_eq_none (by omega)] at h
    cases h
/-- What checkFields tells. -/
def fldE (k : Nat) (h : Bool) (may zero : Nat → Bool) : Int :=
  match (fldN.getD k []).find? (fun r => inH k h r.toNat && !may r.toNat) with
  | some r => refN r.toNat
  | none => if allF.data.toList.all (fun r => inH k h r.toNat || zero r.toNat) then 0 else 116
theorem fldE_no {k : Nat} {h : Bool} {may zero : Nat → Bool} {p : Nat} {r : UInt8} (h1 : (fldN.getD k [])[p]? = some r) (h2 : (inH k h r.toNat && !may r.toNat) = true)
    (h3 : ∀ (q : Nat) (r' : UInt8), q < p → (fldN.getD k [])[q]? = some r' → (inH k h r'.toNat && !may r'.toNat) = false) : fldE k h may zero = refN r.toNat := by
  have hf : (fldN.getD k []).find? (fun r => inH k h r.toNat && !may r.toNat) = some r := by
    rw [List.find?_eq_some_iff_getElem]
    obtain ⟨hp, e⟩ := List.getElem?_eq_some_iff.1 h1
    refine ⟨h2, p, hp, e, fun j hj => ?_⟩
    rw [h3 j _ hj (List.getElem?_eq_getElem (by omega))]
    rfl
  unfold fldE
  rw [hf]
theorem fldE_all {k : Nat} {h : Bool} {may zero : Nat → Bool} (h3 : ∀ (q : Nat) (r' : UInt8), (fldN.getD k [])[q]? = some r' → (inH k h r'.toNat && !may r'.toNat) = false) : fldE k h may zero = if allF.data.toList.all (fun r => inH k h r.toNat || zero r.toNat) then 0 else 116 := by
  have hf : (fldN.getD k []).find? (fun r => inH k h r.toNat && !may r.toNat) = none := by
    rw [List.find?_eq_none]
    intro r hr
    obtain ⟨q, hq⟩ := List.getElem?_of_mem hr
    rw [h3 q r hq]
    simp
  unfold fldE
  rw [hf]
set_option maxHeartbeats 1600000 in
set_option maxRecDepth 100000 in
theorem fields_any (may zero : Nat → Bool) {w : World} {b k : Nat} {m : Ms} (hF : Fld w) (hM : MsAt w b m) (hk : k < 16) (hmk : m.k = k)
    (H1 : ∀ (p : Nat) (r : UInt8), (fldN.getD k [])[p]? = some r → inH k m.h r.toNat = true → (∀ (q : Nat) (r' : UInt8), q < p → (fldN.getD k [])[q]? = some r' → (inH k m.h r'.toNat && !may r'.toNat) = false) → ∀ W, Below w.heap.size w W → Calls Tryz.prog 126 #[.pointer (some ⟨b, 0, none⟩), .int .i32 (r.toNat : Int)] W fun e w' => e = .returned (.bool (may r.toNat)) ∧ Below W.heap.size W w')
    (H2 : ∀ r ∈ allF.data.toList, inH k m.h r.toNat = false → ∀ W, Below w.heap.size w W → Calls Tryz.prog 128 #[.pointer (some ⟨b, 0, none⟩), .int .i32 (r.toNat : Int)] W fun e w' => e = .returned (.bool (zero r.toNat)) ∧ Below W.heap.size W w') :
    Calls Tryz.prog 94 #[.pointer (some ⟨b, 0, none⟩)] w fun e w' => e = .returned (.int .i64 (fldE k m.h may zero)) ∧ Below w.heap.size w w' := by
  have h128 : ∀ (i : Nat) (h : i < (fldS k).size), ((fldS k)[i]'h).toNat < 128 ∧ (fldS k)[i]'h ∈ fldN.getD k [] ∧ (fldN.getD k [])[i]? = some ((fldS k)[i]'h) := by
    intro i h
    have hm : (fldS k)[i]'h ∈ fldN.getD k [] := by
      have : (fldS k)[i]'h ∈ (fldS k).data.toList := by
        simp only [Array.mem_toList_iff]
        exact Array.getElem_mem _
      simpa [fldS] using this
    refine ⟨?_, hm, ?_⟩
    · exact fld_ascii k _ hm
    · have hi : i < (fldN.getD k []).length := by
        have h2 : i < (fldN.getD k []).toArray.size := h
        simpa using h2
      rw [List.getElem?_eq_getElem hi]
      rfl
  have c := hF.cell k hk
  have c0 : w.cell? ⟨b, 0, none⟩ = some (.int .i64 (k : Int)) := by rw [← hmk]; exact hM 0 _ rfl
  have j1 : (k : Int) < 16 := by omega
  have C74 : Hid (∀ (r : Nat) W, r < 128 → Below w.heap.size w W → Calls Tryz.prog 125 #[.pointer (some ⟨b, 0, none⟩), .int .i32 (r : Int)] W fun e w' => e = .returned (.bool (inH k m.h r)) ∧ Below W.heap.size W w') := hid (fun r W hr hW => by
    have hm := hM.under hW
    exact has74_any (hF.below hW) hk hr (by rw [← hmk]; exact hm 0 _ rfl) (hm 9 _ rfl))
  have HH1 := hid H1
  have HH2 := hid H2
  have H128 := hid h128
  obtain ⟨IT, hIT⟩ : ∃ IT, Hid (IT = w.heap.size) := ⟨_, hid rfl⟩
  have EF : Hid (∀ (p : Nat) (r : UInt8), (fldN.getD k [])[p]? = some r → inH k m.h r.toNat = true → may r.toNat = false → (∀ (q : Nat) (r' : UInt8), q < p → (fldN.getD k [])[q]? = some r' → (inH k m.h r'.toNat && !may r'.toNat) = false) → fldE k m.h may zero = refN r.toNat) := hid (fun p r h1 h2 h3 h4 => fldE_no h1 (by rw [h2, h3]; rfl) h4)
  have EA : Hid ((∀ (q : Nat) (r' : UInt8), (fldN.getD k [])[q]? = some r' → (inH k m.h r'.toNat && !may r'.toNat) = false) → fldE k m.h may zero = if allF.data.toList.all (fun r => inH k m.h r.toNat || zero r.toNat) then 0 else 116) := hid (fun h => fldE_all h)
  have LEN : Hid ((fldS k).size = (fldN.getD k []).length) := hid (by show (fldN.getD k []).toArray.size = _; simp)
  generalize fldE k m.h may zero = rE at EF EA ⊢
  have CR : Hid (∀ (r : UInt8) (W : World), r ∈ allF.data.toList → Calls Tryz.prog 127 #[.int .i32 (r.toNat : Int)] W fun e w' => e = .returned (.int .i64 (refN r.toNat)) ∧ w' = W) := hid (fun r W h => refusal_any r h)
  clear hF hM H1 H2 hmk h128
  go_enter Tryz.func94, Tryz.ntmps94
  go_wp2_with fail
  rw [← hIT.out]
  have I0 : Hid ((w.iter (fldS k) 0).heap[IT]? = some (.stringIter (fldS k) 0) ∧ Below w.heap.size w (w.iter (fldS k) 0)) := hid ⟨by rw [hIT.out]; exact World.iter_heap w _ _, iter_below w _⟩
  generalize w.iter (fldS k) 0 = w1 at I0 ⊢
  go_loopw [14] (fun u wr => ∃ p : Nat, Hid (wr.heap[IT]? = some (.stringIter (fldS k) p) ∧ Below w.heap.size w wr ∧ p ≤ (fldS k).size) ∧ Hid (∀ (q : Nat) (r' : UInt8), q < p → (fldN.getD k [])[q]? = some r' → (inH k m.h r'.toNat && !may r'.toNat) = false)) (fun u wr => (fldS k).size - wr.iterPos IT)
  case atStart => exact ⟨0, hid ⟨I0.out.1, I0.out.2, by omega⟩, hid (fun q r' hq => absurd hq (by omega))⟩
  case round =>
    clear I0 c0 c
    obtain ⟨p, HP, HB4⟩ := hrel
    by_cases hlt : p < (fldS k).size
    · have hn := run_next_ascii_at (P := Tryz.prog) wr IT (fldS k) p 0 HP.out.1 hlt (H128.out p hlt).1
      have hb1 := hid (iterAt_below (k := IT) (s := fldS k) (p := p + 1) HP.out.2.1 (by rw [hIT.out]; exact Nat.le_refl _))
      have hi1 := hid (iterAt_heap wr IT (fldS k) p (p + 1) HP.out.1)
      have hmm := hid (H128.out p hlt)
      have hm0 : Hid (wr.iterPos IT = p) := hid (iterPos_of HP.out.1)
      go_wp2_with fail
      generalize (fldS k)[p] = r8 at hmm ⊢
      clear hn
      generalize wr.iterAt IT (fldS k) (p + 1) = w2 at hb1 hi1 ⊢
      cases hB : inH k m.h r8.toNat with
      | true =>
        refine (C74.out _ _ hmm.out.1 hb1.out).mono ?_
        rintro e w3 ⟨rfl, hb3⟩
        rw [hB]
        have HB3 := hid hb3
        have hb13 := hid (b2 hb1.out hb3)
        have HB := hid hB
        clear hb3 hB
        go_wp2_with fail
        refine (HH1.out p r8 hmm.out.2.2 HB.out HB4.out w3 hb13.out).mono ?_
        rintro e w4 ⟨rfl, hb4⟩
        cases hM : may r8.toNat with
        | false =>
          have F := hid (EF.out p r8 hmm.out.2.2 HB.out hM HB4.out)
          have hb14 := hid (b2 hb13.out hb4)
          clear hM hb4
          go_wp2_with fail
          refine (CR.out r8 _ (fld_in k r8 hmm.out.2.1)).mono ?_
          rintro e w5 ⟨rfl, rfl⟩
          go_wp2
          go_ret
          exact ⟨by rw [F.out]; rfl, hb14.out⟩
        | true =>
        have HM := hid hM
        clear hM
        have hi4 : Hid (w4.heap[IT]? = some (.stringIter (fldS k) (p + 1))) := hid (by
          have hlt2 := (Array.getElem?_eq_some_iff.1 hi1.out).1
          rw [hb4.block _ (Nat.lt_of_lt_of_le hlt2 HB3.out.size), HB3.out.block _ hlt2]
          exact hi1.out)
        have hb14 := hid (b2 hb13.out hb4)
        clear hb4
        go_wp2_with fail
        go_roundw
        case rel => exact ⟨p + 1, hid ⟨hi4.out, hb14.out, hlt⟩, hid (fun q r' hq hr => by rcases Nat.lt_succ_iff_lt_or_eq.1 hq with h | h; exact HB4.out q r' h hr; subst h; have := Option.some.inj (hmm.out.2.2.symm.trans hr); subst this; rw [HM.out]; simp)⟩
        case measure => rw [hm0.out, iterPos_of hi4.out]; omega
      | false =>
        refine (C74.out _ _ hmm.out.1 hb1.out).mono ?_
        rintro e w3 ⟨rfl, hb3⟩
        rw [hB]
        have hi4 : Hid (w3.heap[IT]? = some (.stringIter (fldS k) (p + 1))) := hid (by
          have hlt2 := (Array.getElem?_eq_some_iff.1 hi1.out).1
          rw [hb3.block _ hlt2]
          exact hi1.out)
        have hb13 := hid (b2 hb1.out hb3)
        have HB := hid hB
        clear hb3 hB
        go_wp2_with fail
        go_roundw
        case rel => exact ⟨p + 1, hid ⟨hi4.out, hb13.out, hlt⟩, hid (fun q r' hq hr => by rcases Nat.lt_succ_iff_lt_or_eq.1 hq with h | h; exact HB4.out q r' h hr; subst h; have := Option.some.inj (hmm.out.2.2.symm.trans hr); subst this; rw [HB.out]; rfl)⟩
        case measure => rw [hm0.out, iterPos_of hi4.out]; omega
    · have hn := run_next_end_at (P := Tryz.prog) wr IT (fldS k) p 0 HP.out.1 hlt
      have FA := hid (EA.out (fun q r' hr => HB4.out q r' (by have := (List.getElem?_eq_some_iff.1 hr).1; have := LEN.out; omega) hr))
      clear EF EA HB4
      obtain ⟨I2, hI2⟩ : ∃ I2, Hid (I2 = wr.heap.size) := ⟨_, hid rfl⟩
      go_wp2_with fail
      rw [show ({ data := #[86, 75, 67, 78, 76, 81, 72, 79, 82, 69, 71] } : ByteArray) = allF from rfl, ← hI2.out]
      have J0 : Hid ((wr.iter allF 0).heap[I2]? = some (.stringIter allF 0) ∧ Below w.heap.size w (wr.iter allF 0)) := hid ⟨by rw [hI2.out]; exact World.iter_heap wr _ _, b2 HP.out.2.1 (iter_below wr _)⟩
      have hI2w : Hid (w.heap.size ≤ I2) := hid (by rw [hI2.out]; exact HP.out.2.1.size)
      generalize wr.iter allF 0 = w2 at J0 ⊢
      clear hn HP hlt hI2
      go_loopw [29] (fun u wr => ∃ p : Nat, Hid (wr.heap[I2]? = some (.stringIter allF p) ∧ Below w.heap.size w wr ∧ p ≤ allF.size) ∧ Hid (∀ (q : Nat) (r' : UInt8), q < p → allF.data.toList[q]? = some r' → (inH k m.h r'.toNat || zero r'.toNat) = true)) (fun u wr => allF.size - wr.iterPos I2)
      case atStart => exact ⟨0, hid ⟨J0.out.1, J0.out.2, by omega⟩, hid (fun q r' hq => absurd hq (by omega))⟩
      case round =>
        clear J0
        obtain ⟨p, HP, HB4⟩ := hrel
        by_cases hlt : p < allF.size
        · have h8 := all_ascii p hlt
          have hn := run_next_ascii_at (P := Tryz.prog) wr I2 allF p 0 HP.out.1 hlt h8.1
          have hb1 := hid (iterAt_below (k := I2) (s := allF) (p := p + 1) HP.out.2.1 hI2w.out)
          have hi1 := hid (iterAt_heap wr I2 allF p (p + 1) HP.out.1)
          have hmm := hid h8
          have hat : Hid (allF.data.toList[p]? = some (allF[p]'hlt)) := hid (by rw [Array.getElem?_toList]; exact Array.getElem?_eq_getElem (xs := allF.data) hlt)
          have hm0 : Hid (wr.iterPos I2 = p) := hid (iterPos_of HP.out.1)
          clear h8
          go_wp2_with fail
          generalize allF[p] = r8 at hmm hat ⊢
          clear hn
          generalize wr.iterAt I2 allF (p + 1) = w2 at hb1 hi1 ⊢
          cases hB : inH k m.h r8.toNat with
          | false =>
            refine (C74.out _ _ hmm.out.1 hb1.out).mono ?_
            rintro e w3 ⟨rfl, hb3⟩
            rw [hB]
            have HB3 := hid hb3
            have hb13 := hid (b2 hb1.out hb3)
            have HB := hid hB
            clear hb3 hB
            go_wp2_with fail
            refine (HH2.out r8 hmm.out.2 HB.out w3 hb13.out).mono ?_
            rintro e w4 ⟨rfl, hb4⟩
            cases hZ : zero r8.toNat with
            | false =>
              have F : Hid (rE = 116) := hid (by rw [FA.out, if_neg]; intro hh; have := List.all_eq_true.1 hh r8 hmm.out.2; rw [HB.out, hZ] at this; cases this)
              have hb14 := hid (b2 hb13.out hb4)
              clear hZ hb4
              go_wp2
              go_ret
              exact ⟨by rw [F.out]; rfl, hb14.out⟩
            | true =>
            have HZ := hid hZ
            clear hZ
            have hi4 : Hid (w4.heap[I2]? = some (.stringIter allF (p + 1))) := hid (by
              have hlt2 := (Array.getElem?_eq_some_iff.1 hi1.out).1
              rw [hb4.block _ (Nat.lt_of_lt_of_le hlt2 HB3.out.size), HB3.out.block _ hlt2]
              exact hi1.out)
            have hb14 := hid (b2 hb13.out hb4)
            clear hb4
            go_wp2_with fail
            go_roundw
            case rel => exact ⟨p + 1, hid ⟨hi4.out, hb14.out, hlt⟩, hid (fun q r' hq hr => by rcases Nat.lt_succ_iff_lt_or_eq.1 hq with h | h; exact HB4.out q r' h hr; subst h; have := Option.some.inj (hat.out.symm.trans hr); subst this; rw [HZ.out]; simp)⟩
            case measure => rw [hm0.out, iterPos_of hi4.out]; omega
          | true =>
            refine (C74.out _ _ hmm.out.1 hb1.out).mono ?_
            rintro e w3 ⟨rfl, hb3⟩
            rw [hB]
            have hi4 : Hid (w3.heap[I2]? = some (.stringIter allF (p + 1))) := hid (by
              have hlt2 := (Array.getElem?_eq_some_iff.1 hi1.out).1
              rw [hb3.block _ hlt2]
              exact hi1.out)
            have hb13 := hid (b2 hb1.out hb3)
            have HB := hid hB
            clear hb3 hB
            go_wp2_with fail
            go_roundw
            case rel => exact ⟨p + 1, hid ⟨hi4.out, hb13.out, hlt⟩, hid (fun q r' hq hr => by rcases Nat.lt_succ_iff_lt_or_eq.1 hq with h | h; exact HB4.out q r' h hr; subst h; have := Option.some.inj (hat.out.symm.trans hr); subst this; rw [HB.out]; rfl)⟩
            case measure => rw [hm0.out, iterPos_of hi4.out]; omega
        · have hn := run_next_end_at (P := Tryz.prog) wr I2 allF p 0 HP.out.1 hlt
          have F : Hid (rE = 0) := hid (by
            rw [FA.out, if_pos]
            rw [List.all_eq_true]
            intro r hr
            obtain ⟨q, hq⟩ := List.getElem?_of_mem hr
            have h1 := (List.getElem?_eq_some_iff.1 hq).1
            exact HB4.out q r (by have h2 : allF.data.toList.length = allF.size := by rw [Array.length_toList]; rfl
                                  omega) hq)
          go_wp2
          go_ret
          exact ⟨by rw [F.out]; rfl, HP.out.2.1⟩
end Go.Proofs.YtdhkdniddjnigaaGreatDoor

namespace Go.Proofs.YtdhkdniddjnigaaGreatDoor
open Go.RowKit
set_option linter.unusedVariables false

theorem mayH {w : World} {b : Nat} : Calls Tryz.prog 126 #[.pointer (some ⟨b, 0, none⟩), .int .i32 72] w fun e w' => e = .returned (.bool true) ∧ w' = w := by
  go_enter Tryz.func126, Tryz.ntmps126
  go_wp2
  go_ret
  exact ⟨rfl, rfl⟩
set_option maxRecDepth 1000000 in
theorem mayE {w : World} {b : Nat} {m : Ms} {li : List ByteArray} {le lx : List Ent} {ls : List Sh} (hT : Tab w) (h : MsAt w b m) (hl : Ml w m li le ls lx) (hn : 1 ≤ m.n ∧ m.n ≤ 1099511627776) : Calls Tryz.prog 126 #[.pointer (some ⟨b, 0, none⟩), .int .i32 69] w fun e w' => e = .returned (.bool (m.eB le)) ∧ Below w.heap.size w w' := by
  have C := hid (ent107 hT h hl hn)
  generalize m.eB le = z at C ⊢
  clear h hl hT hn
  go_enter Tryz.func126, Tryz.ntmps126
  go_wp2_with fail
  refine C.out.mono ?_
  rintro e w1 ⟨rfl, B1⟩
  have B1 := hid B1
  go_wp2
  go_ret
  exact ⟨rfl, B1.out⟩
/-- May a field be? -/
def Ms.may (m : Ms) (li : List ByteArray) (le : List Ent) (ls : List Sh) (lx : List Ent) (r : Nat) : Bool :=
  if r = 86 then inR m.v 0 1099511627776 else if r = 75 then inR m.n (lstK m.k) 1099511627776 else if r = 67 then inR m.c 0 1099511627776
  else if r = 78 then inR m.o 0 m.v else if r = 76 then inR m.l 1 1099511627776 else if r = 81 then inR m.q 1 1099511627776
  else if r = 79 then m.oB else if r = 82 then chkX m.rc m.rn li == 0 else if r = 69 then m.eB le else if r = 71 then cgB m.cf m.cb ls lx else true
/-- Does nothing stand in a field? -/
def Ms.nil (m : Ms) (r : Nat) : Bool :=
  if r = 86 then m.v == 0 else if r = 75 then m.n == 0 else if r = 67 then m.c == 0 else if r = 78 then m.o == 0 else if r = 76 then m.l == 0
  else if r = 81 then m.q == 0 else if r = 72 then !m.h else if r = 79 then m.zO else if r = 82 then m.zR else if r = 69 then (m.el : Int) == 0 else m.zG
theorem only_four : ∀ k < 16, ∀ p < 6, (fldN.getD k [])[p]? = some 69 → k = 4 ∧ p = 3 := by decide
theorem fld_len : ∀ k < 16, (fldN.getD k []).length < 6 := by decide
theorem k_four (h : Bool) : inH 4 h 75 = true := by cases h <;> rfl
set_option maxRecDepth 1000000 in
/-- checkFields of any message. -/
theorem fields34 {w : World} {b k : Nat} {m : Ms} {li : List ByteArray} {le lx : List Ent} {ls : List Sh} (hT : Tab w) (hF : Fld w) (hM : MsAt w b m) (hl : Ml w m li le ls lx) (hk : k < 16) (hmk : m.k = k) :
    Calls Tryz.prog 94 #[.pointer (some ⟨b, 0, none⟩)] w fun e w' => e = .returned (.int .i64 (fldE k m.h (m.may li le ls lx) m.nil)) ∧ Below w.heap.size w w' := by
  have qw : ∀ (W : World) (f : Nat) (xs : Array Value) (v : Value), Calls Tryz.prog f xs W (fun e w' => e = .returned v ∧ w' = W) → Calls Tryz.prog f xs W (fun e w' => e = .returned v ∧ Below W.heap.size W w') := fun W f xs v h => h.mono fun e w' ⟨h1, h2⟩ => ⟨h1, by rw [h2]; exact Below.refl _ _⟩
  refine fields_any (m.may li le ls lx) m.nil hF hM hk hmk ?_ ?_
  · intro p r hr hin hbef W hW
    have hm := hM.under hW
    have hL := hl.later hW
    have hin2 := fld_in k r (List.mem_of_getElem? hr)
    have hin2 : r ∈ [(86 : UInt8), 75, 67, 78, 76, 81, 72, 79, 82, 69, 71] := hin2
    simp only [List.mem_cons, List.not_mem_nil, or_false] at hin2
    rcases hin2 with rfl | rfl | rfl | rfl | rfl | rfl | rfl | rfl | rfl | rfl | rfl
    · exact qw _ _ _ _ (mayV hm)
    · exact mayK hm
    · exact qw _ _ _ _ (mayC hm)
    · exact mayN hm
    · exact qw _ _ _ _ (mayL hm)
    · exact qw _ _ _ _ (mayQ hm)
    · exact qw _ _ _ _ mayH
    · exact mayOO (hT.below hW) hm
    · exact mayR hm hL
    · have hp : p < 6 := Nat.lt_trans (List.getElem?_eq_some_iff.1 hr).1 (fld_len k hk)
      obtain ⟨rfl, rfl⟩ := only_four k hk p hp hr
      have h1 := hbef 1 75 (by omega) rfl
      have h2 : inH 4 m.h (UInt8.toNat 75) = true := k_four m.h
      rw [h2] at h1
      have h3 : m.may li le ls lx (UInt8.toNat 75) = true := by
        cases h4 : m.may li le ls lx (UInt8.toNat 75) with
        | true => rfl
        | false => rw [h4] at h1; cases h1
      have h5 : inR m.n (lstK m.k) 1099511627776 = true := h3
      have hk4 : lstK m.k = 1 := by rw [hmk]; rfl
      rw [hk4] at h5
      have h6 := of_decide_eq_true h5
      exact mayE (hT.below hW) hm hL h6
    · exact mayG (hT.below hW) hm hL
  · intro r hr hin W hW
    have hm := hM.under hW
    have hin2 : r ∈ [(86 : UInt8), 75, 67, 78, 76, 81, 72, 79, 82, 69, 71] := hr
    simp only [List.mem_cons, List.not_mem_nil, or_false] at hin2
    rcases hin2 with rfl | rfl | rfl | rfl | rfl | rfl | rfl | rfl | rfl | rfl | rfl
    · exact qw _ _ _ _ (zeroV hm)
    · exact qw _ _ _ _ (zeroK hm)
    · exact qw _ _ _ _ (zeroC hm)
    · exact qw _ _ _ _ (zeroN hm)
    · exact qw _ _ _ _ (zeroL hm)
    · exact qw _ _ _ _ (zeroQ hm)
    · exact qw _ _ _ _ (zeroH hm)
    · exact qw _ _ _ _ (zeroO hm)
    · exact qw _ _ _ _ (zeroR hm)
    · exact qw _ _ _ _ (zeroE hm)
    · exact qw _ _ _ _ (zeroG hm)
end Go.Proofs.YtdhkdniddjnigaaGreatDoor

namespace Go.Proofs.YtdhkdniddjnigaaGreatDoor
open Go.RowKit Go.Lib
set_option linter.unusedVariables false

/-- Is it to itself? -/
def Ms.slf (m : Ms) : Bool := decide (m.f = m.t) && (!decide (m.k = 1 ∨ m.k = 14) && !decide (m.k = 2 ∨ m.k = 3 ∨ m.k = 15))
set_option maxRecDepth 1000000 in
theorem itself_any {w : World} (m : Ms) : Calls Tryz.prog 93 #[m.V] w fun e w' => e = .returned (.bool m.slf) ∧ Below w.heap.size w w' := by
  have C10 : Hid (∀ W : World, Calls Tryz.prog 91 #[.int .i64 m.k] W fun e w' => e = .returned (.bool (decide (m.k = 1 ∨ m.k = 14))) ∧ w' = W) := hid (fun W => from_any m.k)
  have C11 : Hid (∀ W : World, Calls Tryz.prog 92 #[.int .i64 m.k] W fun e w' => e = .returned (.bool (decide (m.k = 2 ∨ m.k = 3 ∨ m.k = 15))) ∧ w' = W) := hid (fun W => to_any m.k)
  have E : Hid (m.slf = (decide (m.f = m.t) && (!decide (m.k = 1 ∨ m.k = 14) && !decide (m.k = 2 ∨ m.k = 3 ∨ m.k = 15)))) := hid rfl
  generalize decide (m.k = 1 ∨ m.k = 14) = x at C10 E
  generalize decide (m.k = 2 ∨ m.k = 3 ∨ m.k = 15) = y at C11 E
  generalize m.slf = z at E ⊢
  by_cases hne : m.f = m.t
  rotate_left
  · have F : Hid (z = false) := hid (by rw [E.out, decide_eq_false hne]; rfl)
    have hb : (m.f == m.t) = false := by simpa using hne
    clear hne
    go_enter Tryz.func93, Tryz.ntmps93
    go_wp2
    go_ret
    exact ⟨by rw [F.out]; rfl, ba _ _⟩
  have hb : (m.f == m.t) = true := by simpa using hne
  have F : Hid (z = (!x && !y)) := hid (by rw [E.out, decide_eq_true hne]; rfl)
  clear hne E
  have BA := hid (ba w (.cells m.cells.toArray 51))
  have M0 := hid (MsAt.new w m)
  go_enter Tryz.func93, Tryz.ntmps93
  go_upto_region 1 with fail
  obtain ⟨b, hbb⟩ : ∃ b, Hid (b = w.heap.size) := ⟨_, hid rfl⟩
  have e0 : Hid (∀ o, w.alloc o = w.alloc o) := hid (fun _ => rfl)
  rw [← hbb.out] at M0 ⊢
  change Code.wp _ _ _ _ (w.alloc (.cells m.cells.toArray 51))
  generalize w.alloc (.cells m.cells.toArray 51) = w1 at BA M0 ⊢
  have c0 : w1.cell? ⟨b, 0, none⟩ = some (.int .i64 m.k) := M0.out 0 _ rfl
  have c1 : w1.cell? ⟨b, 1, none⟩ = some (.int .i64 m.f) := M0.out 1 _ rfl
  have c2 : w1.cell? ⟨b, 2, none⟩ = some (.int .i64 m.t) := M0.out 2 _ rfl
  cases x
  · cases y
    · go_wp2_with (first | (go_at_call 91; refine (C10.out _).mono ?_; rintro e w' ⟨rfl, rfl⟩) | (go_at_call 92; refine (C11.out _).mono ?_; rintro e w' ⟨rfl, rfl⟩))
      go_ret
      exact ⟨by rw [F.out]; rfl, BA.out⟩
    · go_wp2_with (first | (go_at_call 91; refine (C10.out _).mono ?_; rintro e w' ⟨rfl, rfl⟩) | (go_at_call 92; refine (C11.out _).mono ?_; rintro e w' ⟨rfl, rfl⟩))
      go_ret
      exact ⟨by rw [F.out]; rfl, BA.out⟩
  · go_wp2_with (first | (go_at_call 91; refine (C10.out _).mono ?_; rintro e w' ⟨rfl, rfl⟩) | (go_at_call 92; refine (C11.out _).mono ?_; rintro e w' ⟨rfl, rfl⟩))
    go_ret
    exact ⟨by rw [F.out]; rfl, BA.out⟩
/-- Is there such an end? -/
def endB (n who : Int) (c : Bool) : Bool := if c then decide (0 ≤ who ∧ who ≤ 7) else decide (0 ≤ who ∧ who ≤ n - 1)
/-- What Check tells. -/
def chkM (n : Int) (m : Ms) (E : Int) : Int := if ¬(n = 3 ∨ n = 5 ∨ n = 7) then 1 else if ¬(1 ≤ m.k ∧ m.k ≤ 15) then 110 else if endB n m.f (decide (m.k = 1 ∨ m.k = 14)) = false then 111
  else if endB n m.t (decide (m.k = 2 ∨ m.k = 3 ∨ m.k = 15)) = false then 112 else if m.slf = true then 112 else E
set_option maxHeartbeats 6400000 in
set_option maxRecDepth 1000000 in
/-- Check of any message. -/
theorem checkM_any {w : World} (n : Int) (hn : -9223372036854775808 < n) (hn2 : n ≤ 9223372036854775807) (m : Ms) (E : Int)
    (H34 : 1 ≤ m.k ∧ m.k ≤ 15 → ∀ (W : World) (b : Nat), Below w.heap.size w W → MsAt W b m → Calls Tryz.prog 94 #[.pointer (some ⟨b, 0, none⟩)] W fun e w' => e = .returned (.int .i64 E) ∧ Below W.heap.size W w') :
    Calls Tryz.prog 56 #[.int .i64 n, m.V] w fun e w' => e = .returned (.int .i64 (chkM n m E)) ∧ Below w.heap.size w w' := by
  obtain ⟨r, hr⟩ : ∃ r, Hid (chkM n m E = r) := ⟨_, hid rfl⟩
  rw [hr.out]
  have C31 : Hid (∀ W : World, Calls Tryz.prog 89 #[.int .i64 n] W fun e w' => e = .returned (.bool (decide (n = 3 ∨ n = 5 ∨ n = 7))) ∧ w' = W) := hid (fun W => fleet_any n)
  have M0 := hid (MsAt.new w m)
  have B0 := hid (ba w (.cells m.cells.toArray 51))
  by_cases hf : n = 3 ∨ n = 5 ∨ n = 7
  rotate_left
  · have F : Hid (r = 1) := hid (by rw [← hr.out]; unfold chkM; rw [if_pos hf])
    rw [decide_eq_false hf] at C31
    clear hf H34 hr
    go_enter Tryz.func56, Tryz.ntmps56
    go_wp2_with fail
    refine (C31.out _).mono ?_
    rintro e w1 ⟨rfl, hw1⟩
    have B0 : Hid (Below w.heap.size w w1) := hid (by rw [hw1]; exact B0.out)
    clear hw1 C31
    go_wp2
    go_ret
    exact ⟨by rw [F.out]; rfl, B0.out⟩
  rw [decide_eq_true hf] at C31
  have hr : Hid ((if ¬(1 ≤ m.k ∧ m.k ≤ 15) then 110 else if endB n m.f (decide (m.k = 1 ∨ m.k = 14)) = false then 111 else if endB n m.t (decide (m.k = 2 ∨ m.k = 3 ∨ m.k = 15)) = false then 112 else if m.slf = true then 112 else E) = r) := hid (by rw [← hr.out]; unfold chkM; rw [if_neg (not_not_intro hf)])
  clear hf
  by_cases k1 : m.k < 1
  · have F : Hid (r = 110) := hid (by rw [← hr.out, if_pos (by omega)])
    have e1 : decide (m.k < 1) = true := by simpa using k1
    clear k1 H34 hr
    go_enter Tryz.func56, Tryz.ntmps56
    go_wp2_with fail
    refine (C31.out _).mono ?_
    rintro e w1 ⟨rfl, hw1⟩
    have c0 : w1.cell? ⟨w.heap.size, 0, none⟩ = some (.int .i64 m.k) := by rw [hw1]; exact M0.out 0 _ rfl
    have B0 : Hid (Below w.heap.size w w1) := hid (by rw [hw1]; exact B0.out)
    clear hw1 C31
    go_wp2
    go_ret
    exact ⟨by rw [F.out]; rfl, B0.out⟩
  have e1 : decide (m.k < 1) = false := by simpa using k1
  by_cases k2 : 15 < m.k
  · have F : Hid (r = 110) := hid (by rw [← hr.out, if_pos (by omega)])
    have e2 : decide (15 < m.k) = true := by simpa using k2
    clear k1 k2 H34 hr
    go_enter Tryz.func56, Tryz.ntmps56
    go_wp2_with fail
    refine (C31.out _).mono ?_
    rintro e w1 ⟨rfl, hw1⟩
    have c0 : w1.cell? ⟨w.heap.size, 0, none⟩ = some (.int .i64 m.k) := by rw [hw1]; exact M0.out 0 _ rfl
    have B0 : Hid (Below w.heap.size w w1) := hid (by rw [hw1]; exact B0.out)
    clear hw1 C31
    go_wp2
    go_ret
    exact ⟨by rw [F.out]; rfl, B0.out⟩
  have e2 : decide (15 < m.k) = false := by simpa using k2
  have HH := hid (H34 (by omega))
  have hr : Hid ((if endB n m.f (decide (m.k = 1 ∨ m.k = 14)) = false then 111 else if endB n m.t (decide (m.k = 2 ∨ m.k = 3 ∨ m.k = 15)) = false then 112 else if m.slf = true then 112 else E) = r) := hid (by rw [← hr.out, if_neg (c := ¬(1 ≤ m.k ∧ m.k ≤ 15)) (by omega)])
  have C10 : Hid (∀ W : World, Calls Tryz.prog 91 #[.int .i64 m.k] W fun e w' => e = .returned (.bool (decide (m.k = 1 ∨ m.k = 14))) ∧ w' = W) := hid (fun W => from_any m.k)
  have C11 : Hid (∀ W : World, Calls Tryz.prog 92 #[.int .i64 m.k] W fun e w' => e = .returned (.bool (decide (m.k = 2 ∨ m.k = 3 ∨ m.k = 15))) ∧ w' = W) := hid (fun W => to_any m.k)
  have CF : Hid (∀ (c : Bool) (W : World), Calls Tryz.prog 90 #[.int .i64 n, .int .i64 m.f, .bool c] W fun e w' => e = .returned (.bool (endB n m.f c)) ∧ w' = W) := hid (fun c W => isEnd_any n m.f c hn hn2)
  have CT : Hid (∀ (c : Bool) (W : World), Calls Tryz.prog 90 #[.int .i64 n, .int .i64 m.t, .bool c] W fun e w' => e = .returned (.bool (endB n m.t c)) ∧ w' = W) := hid (fun c W => isEnd_any n m.t c hn hn2)
  have C33 : Hid (∀ W : World, Calls Tryz.prog 93 #[.agg m.cells.toArray] W fun e w' => e = .returned (.bool m.slf) ∧ Below W.heap.size W w') := hid (fun W => itself_any m)
  generalize decide (m.k = 1 ∨ m.k = 14) = cF at C10 hr
  generalize decide (m.k = 2 ∨ m.k = 3 ∨ m.k = 15) = cT at C11 hr
  have CF : Hid (∀ (W : World), Calls Tryz.prog 90 #[.int .i64 n, .int .i64 m.f, .bool cF] W fun e w' => e = .returned (.bool (endB n m.f cF)) ∧ w' = W) := hid (CF.out cF)
  have CT : Hid (∀ (W : World), Calls Tryz.prog 90 #[.int .i64 n, .int .i64 m.t, .bool cT] W fun e w' => e = .returned (.bool (endB n m.t cT)) ∧ w' = W) := hid (CT.out cT)
  generalize endB n m.f cF = eF at CF hr
  generalize endB n m.t cT = eT at CT hr
  generalize m.slf = sB at C33 hr
  clear H34 k1 k2 hn hn2
  go_enter Tryz.func56, Tryz.ntmps56
  go_wp2_with fail
  refine (C31.out _).mono ?_
  rintro e w1 ⟨rfl, hw1⟩
  have M0 : Hid (MsAt w1 w.heap.size m) := hid (by rw [hw1]; exact M0.out)
  have B0 : Hid (Below w.heap.size w w1) := hid (by rw [hw1]; exact B0.out)
  clear hw1 C31
  obtain ⟨b, hbb⟩ : ∃ b, Hid (b = w.heap.size) := ⟨_, hid rfl⟩
  rw [← hbb.out] at M0
  simp only [← hbb.out]
  have B0 : Hid (Below w.heap.size w w1) := hid (by have := B0.out; rwa [← hbb.out] at this ⊢)
  have c0 : w1.cell? ⟨b, 0, none⟩ = some (.int .i64 m.k) := M0.out 0 _ rfl
  have c1 : w1.cell? ⟨b, 1, none⟩ = some (.int .i64 m.f) := M0.out 1 _ rfl
  go_wp2
  go_region_held3 (fun W => W.cell? ⟨b, 0, none⟩ = some (.int .i64 m.k) ∧ W.cell? ⟨b, 1, none⟩ = some (.int .i64 m.f)) (go_keep)
    (first
      | (go_at_call 91; refine (C10.out _).mono ?_; rintro e w2 ⟨rfl, hw2⟩; subst hw2)
      | (go_at_call 90; refine (CF.out _).mono ?_; rintro e w2 ⟨rfl, hw2⟩; subst hw2))
  have M3 : Hid (MsAt w1.drew b m) := hid (M0.out.under (bd w1))
  have B3 : Hid (Below w.heap.size w w1.drew) := hid (b2 B0.out (bd w1))
  generalize w1.drew = w3 at M3 B3 ⊢
  clear M0 B0 C10 CF c0 c1
  cases eF
  · have F : Hid (r = 111) := hid (by rw [← hr.out]; rfl)
    clear hr
    go_wp2
    go_ret
    exact ⟨by rw [F.out]; rfl, by first | exact B3.out | (rw [hbb.out]; exact B3.out)⟩
  have hr : Hid ((if eT = false then 112 else if sB = true then 112 else E) = r) := hid (by rw [← hr.out]; rfl)
  have y0 := (M3.out.under (bd w3)) 0 _ rfl
  have y2 := (M3.out.under (bd w3)) 2 _ rfl
  have yM := M3.out.under (bd w3)
  have yR : Hid (w3.drew.rangeAt b 0 m.cells) := hid (fun j u hu => by rw [Nat.zero_add]; exact yM j u hu)
  have i34 : (Tryz.prog.info? 51).map (·.size) = some m.cells.length := by kernel_rfl
  have i34 := hid i34
  cases eT
  · have F : Hid (r = 112) := hid (by rw [← hr.out]; rfl)
    clear hr
    go_wp2
    refine wp_region_held_drew (S := (fun W => W.cell? ⟨b, 0, none⟩ = some (.int .i64 m.k) ∧ W.cell? ⟨b, 2, none⟩ = some (.int .i64 m.t) ∧ W.rangeAt b 0 m.cells)) (by kernel_rfl) ⟨y0, y2, yR.out⟩ (fun hHeld => ?_)
    refine wpAnyH_take (i := 0) (oi := { dst := some 28, op := Go.Op.move (Go.Operand.tmp 0), type := 3, pos := "mail.go:25", after := #[], guard := none }) (v := ?_) rfl (by kernel_rfl) (by kernel_rfl) (by kernel_rfl) (fun _ _ _ h => h) (Or.inl ⟨by rfl, ?_⟩) hHeld ?_
    rotate_left
    · intro W hSw
      (try dsimp only at hSw)
      go_simp
      (try with_reducible rfl)
    (try simp only [Act.put, List.setIfInBounds_toArray, List.set_cons_zero, List.set_cons_succ])
    refine wpAnyH_take (i := 1) (oi := { dst := some 29, op := Go.Op.fieldAddr 51 (Go.Operand.tmp 3) 2, type := 0, pos := "mail.go:25", after := #[], guard := none }) (v := ?_) rfl (by kernel_rfl) (by kernel_rfl) (by kernel_rfl) (fun _ _ _ h => h) (Or.inl ⟨by rfl, ?_⟩) hHeld ?_
    rotate_left
    · intro W hSw
      (try dsimp only at hSw)
      go_simp
      (try with_reducible rfl)
    (try simp only [Act.put, List.setIfInBounds_toArray, List.set_cons_zero, List.set_cons_succ])
    refine wpAnyH_take (i := 2) (oi := { dst := some 30, op := Go.Op.load 3 (Go.Operand.tmp 29), type := 3, pos := "mail.go:25", after := #[{ on := 1, ground := Go.Ground.data }], guard := none }) (v := ?_) rfl (by kernel_rfl) (by kernel_rfl) (by kernel_rfl) (fun _ _ _ h => h) (Or.inl ⟨by rfl, ?_⟩) hHeld ?_
    rotate_left
    · intro W hSw
      (try dsimp only at hSw)
      go_simp
      (try with_reducible rfl)
    (try simp only [Act.put, List.setIfInBounds_toArray, List.set_cons_zero, List.set_cons_succ])
    refine wpAnyH_take (i := 3) (oi := { dst := some 31, op := Go.Op.fieldAddr 51 (Go.Operand.tmp 3) 0, type := 0, pos := "mail.go:25", after := #[], guard := none }) (v := ?_) rfl (by kernel_rfl) (by kernel_rfl) (by kernel_rfl) (fun _ _ _ h => h) (Or.inl ⟨by rfl, ?_⟩) hHeld ?_
    rotate_left
    · intro W hSw
      (try dsimp only at hSw)
      go_simp
      (try with_reducible rfl)
    (try simp only [Act.put, List.setIfInBounds_toArray, List.set_cons_zero, List.set_cons_succ])
    refine wpAnyH_take (i := 4) (oi := { dst := some 32, op := Go.Op.load 3 (Go.Operand.tmp 31), type := 3, pos := "mail.go:25", after := #[{ on := 3, ground := Go.Ground.data }], guard := none }) (v := ?_) rfl (by kernel_rfl) (by kernel_rfl) (by kernel_rfl) (fun _ _ _ h => h) (Or.inl ⟨by rfl, ?_⟩) hHeld ?_
    rotate_left
    · intro W hSw
      (try dsimp only at hSw)
      go_simp
      (try with_reducible rfl)
    (try simp only [Act.put, List.setIfInBounds_toArray, List.set_cons_zero, List.set_cons_succ])
    refine wpAnyH_ready (rs := [5]) (by kernel_rfl) (by simp) ?_
    refine AllReadyH.cons (o := { dst := some 33, op := Go.Op.call { callee := Go.Callee.value (Go.Operand.func 92), args := #[Go.Operand.tmp 32], argTypes := #[3] }, type := 4, pos := "mail.go:25", after := #[{ on := 4, ground := Go.Ground.data }], guard := none }) rfl (fun K hK => ?_) AllReadyH.nil
    go_simp
    refine (C11.out _).mono ?_; rintro e w2 ⟨rfl, hw2⟩; subst hw2
    refine hK.out _ _ ⟨y0, y2, yR.out⟩ (fun hHeld => ?_)
    clear hK K
    (try simp only [Act.put, List.setIfInBounds_toArray, List.set_cons_zero, List.set_cons_succ])
    refine wpAnyH_ready (rs := [6]) (by kernel_rfl) (by simp) ?_
    refine AllReadyH.cons (o := { dst := some 34, op := Go.Op.call { callee := Go.Callee.value (Go.Operand.func 90), args := #[Go.Operand.tmp 28, Go.Operand.tmp 30, Go.Operand.tmp 33], argTypes := #[3, 3, 4] }, type := 4, pos := "mail.go:25", after := #[{ on := 0, ground := Go.Ground.data }, { on := 2, ground := Go.Ground.data }, { on := 5, ground := Go.Ground.data }, { on := 5, ground := Go.Ground.chain }], guard := none }) rfl (fun K hK => ?_) AllReadyH.nil
    go_simp
    refine (CT.out _).mono ?_; rintro e w2 ⟨rfl, hw2⟩; subst hw2
    refine hK.out _ _ ⟨y0, y2, yR.out⟩ (fun hHeld => ?_)
    clear hK K
    (try simp only [Act.put, List.setIfInBounds_toArray, List.set_cons_zero, List.set_cons_succ])
    refine wpAnyH_take (i := 7) (oi := { dst := some 35, op := Go.Op.unOp Go.UnOp.not 4 (Go.Operand.tmp 34), type := 4, pos := "mail.go:25", after := #[{ on := 6, ground := Go.Ground.data }], guard := none }) (v := ?_) rfl (by kernel_rfl) (by kernel_rfl) (by kernel_rfl) (fun _ _ _ h => h) (Or.inl ⟨by rfl, ?_⟩) hHeld ?_
    rotate_left
    · intro W hSw
      (try dsimp only at hSw)
      go_simp
      (try with_reducible rfl)
    (try simp only [Act.put, List.setIfInBounds_toArray, List.set_cons_zero, List.set_cons_succ])
    refine wpAnyH_take (i := 8) (oi := { dst := some 36, op := Go.Op.move (Go.Operand.tmp 35), type := 4, pos := "mail.go:25", after := #[{ on := 7, ground := Go.Ground.data }, { on := 6, ground := Go.Ground.chain }], guard := none }) (v := ?_) rfl (by kernel_rfl) (by kernel_rfl) (by kernel_rfl) (fun _ _ _ h => h) (Or.inl ⟨by rfl, ?_⟩) hHeld ?_
    rotate_left
    · intro W hSw
      (try dsimp only at hSw)
      go_simp
      (try with_reducible rfl)
    (try simp only [Act.put, List.setIfInBounds_toArray, List.set_cons_zero, List.set_cons_succ])
    refine wpAnyH_take (i := 9) (oi := { dst := some 37, op := Go.Op.load 51 (Go.Operand.tmp 3), type := 51, pos := "mail.go:25", after := #[{ on := 8, ground := Go.Ground.guard }], guard := some (8, false) }) (v := undef) rfl (by kernel_rfl) (by kernel_rfl) (by kernel_rfl) (fun _ _ _ h => h) (Or.inr ⟨by rfl, rfl⟩) hHeld ?_
    (try simp only [Act.put, List.setIfInBounds_toArray, List.set_cons_zero, List.set_cons_succ])
    refine wpAnyH_take (i := 10) (oi := { dst := some 38, op := Go.Op.call { callee := Go.Callee.value (Go.Operand.func 93), args := #[Go.Operand.tmp 37], argTypes := #[51] }, type := 4, pos := "mail.go:25", after := #[{ on := 9, ground := Go.Ground.data }, { on := 8, ground := Go.Ground.chain }, { on := 8, ground := Go.Ground.guard }], guard := some (8, false) }) (v := undef) rfl (by kernel_rfl) (by kernel_rfl) (by kernel_rfl) (fun _ _ _ h => h) (Or.inr ⟨by rfl, rfl⟩) hHeld ?_
    (try simp only [Act.put, List.setIfInBounds_toArray, List.set_cons_zero, List.set_cons_succ])
    refine wpAnyH_take (i := 11) (oi := { dst := some 39, op := Go.Op.pick (Go.Operand.tmp 36) (Go.Operand.const (Go.Value.bool true)) (Go.Operand.tmp 38), type := 4, pos := "mail.go:25", after := #[{ on := 8, ground := Go.Ground.data }, { on := 10, ground := Go.Ground.data }], guard := none }) (v := ?_) rfl (by kernel_rfl) (by kernel_rfl) (by kernel_rfl) (fun _ _ _ h => h) (Or.inl ⟨by rfl, ?_⟩) hHeld ?_
    rotate_left
    · intro W hSw
      (try dsimp only at hSw)
      go_simp
      (try with_reducible rfl)
    (try simp only [Act.put, List.setIfInBounds_toArray, List.set_cons_zero, List.set_cons_succ])
    refine wpAnyH_take (i := 12) (oi := { dst := some 27, op := Go.Op.assign (Go.Operand.tmp 39), type := 4, pos := "mail.go:25", after := #[{ on := 11, ground := Go.Ground.data }, { on := 10, ground := Go.Ground.chain }], guard := none }) (v := ?_) rfl (by kernel_rfl) (by kernel_rfl) (by kernel_rfl) (fun _ _ _ h => h) (Or.inl ⟨by rfl, ?_⟩) hHeld ?_
    rotate_left
    · intro W hSw
      (try dsimp only at hSw)
      go_simp
      (try with_reducible rfl)
    (try simp only [Act.put, List.setIfInBounds_toArray, List.set_cons_zero, List.set_cons_succ])
    refine wpAnyH_done (by kernel_rfl) ?_ _
    clear hHeld
    clear y0 y2 yM yR i34
    go_wp2
    go_ret
    exact ⟨by rw [F.out]; rfl, by have := b2 B3.out (bd w3); first | exact this | (rw [hbb.out]; exact this)⟩
  have hr : Hid ((if sB = true then 112 else E) = r) := hid (by rw [← hr.out]; rfl)
  go_wp2
  refine wp_region_held_drew (S := (fun W => W.cell? ⟨b, 0, none⟩ = some (.int .i64 m.k) ∧ W.cell? ⟨b, 2, none⟩ = some (.int .i64 m.t) ∧ W.rangeAt b 0 m.cells)) (by kernel_rfl) ⟨y0, y2, yR.out⟩ (fun hHeld => ?_)
  refine wpAnyH_take (i := 0) (oi := { dst := some 28, op := Go.Op.move (Go.Operand.tmp 0), type := 3, pos := "mail.go:25", after := #[], guard := none }) (v := ?_) rfl (by kernel_rfl) (by kernel_rfl) (by kernel_rfl) (fun _ _ _ h => h) (Or.inl ⟨by rfl, ?_⟩) hHeld ?_
  rotate_left
  · intro W hSw
    (try dsimp only at hSw)
    go_simp
    (try with_reducible rfl)
  (try simp only [Act.put, List.setIfInBounds_toArray, List.set_cons_zero, List.set_cons_succ])
  refine wpAnyH_take (i := 1) (oi := { dst := some 29, op := Go.Op.fieldAddr 51 (Go.Operand.tmp 3) 2, type := 0, pos := "mail.go:25", after := #[], guard := none }) (v := ?_) rfl (by kernel_rfl) (by kernel_rfl) (by kernel_rfl) (fun _ _ _ h => h) (Or.inl ⟨by rfl, ?_⟩) hHeld ?_
  rotate_left
  · intro W hSw
    (try dsimp only at hSw)
    go_simp
    (try with_reducible rfl)
  (try simp only [Act.put, List.setIfInBounds_toArray, List.set_cons_zero, List.set_cons_succ])
  refine wpAnyH_take (i := 2) (oi := { dst := some 30, op := Go.Op.load 3 (Go.Operand.tmp 29), type := 3, pos := "mail.go:25", after := #[{ on := 1, ground := Go.Ground.data }], guard := none }) (v := ?_) rfl (by kernel_rfl) (by kernel_rfl) (by kernel_rfl) (fun _ _ _ h => h) (Or.inl ⟨by rfl, ?_⟩) hHeld ?_
  rotate_left
  · intro W hSw
    (try dsimp only at hSw)
    go_simp
    (try with_reducible rfl)
  (try simp only [Act.put, List.setIfInBounds_toArray, List.set_cons_zero, List.set_cons_succ])
  refine wpAnyH_take (i := 3) (oi := { dst := some 31, op := Go.Op.fieldAddr 51 (Go.Operand.tmp 3) 0, type := 0, pos := "mail.go:25", after := #[], guard := none }) (v := ?_) rfl (by kernel_rfl) (by kernel_rfl) (by kernel_rfl) (fun _ _ _ h => h) (Or.inl ⟨by rfl, ?_⟩) hHeld ?_
  rotate_left
  · intro W hSw
    (try dsimp only at hSw)
    go_simp
    (try with_reducible rfl)
  (try simp only [Act.put, List.setIfInBounds_toArray, List.set_cons_zero, List.set_cons_succ])
  refine wpAnyH_take (i := 4) (oi := { dst := some 32, op := Go.Op.load 3 (Go.Operand.tmp 31), type := 3, pos := "mail.go:25", after := #[{ on := 3, ground := Go.Ground.data }], guard := none }) (v := ?_) rfl (by kernel_rfl) (by kernel_rfl) (by kernel_rfl) (fun _ _ _ h => h) (Or.inl ⟨by rfl, ?_⟩) hHeld ?_
  rotate_left
  · intro W hSw
    (try dsimp only at hSw)
    go_simp
    (try with_reducible rfl)
  (try simp only [Act.put, List.setIfInBounds_toArray, List.set_cons_zero, List.set_cons_succ])
  refine wpAnyH_ready (rs := [5]) (by kernel_rfl) (by simp) ?_
  refine AllReadyH.cons (o := { dst := some 33, op := Go.Op.call { callee := Go.Callee.value (Go.Operand.func 92), args := #[Go.Operand.tmp 32], argTypes := #[3] }, type := 4, pos := "mail.go:25", after := #[{ on := 4, ground := Go.Ground.data }], guard := none }) rfl (fun K hK => ?_) AllReadyH.nil
  go_simp
  refine (C11.out _).mono ?_; rintro e w2 ⟨rfl, hw2⟩; subst hw2
  refine hK.out _ _ ⟨y0, y2, yR.out⟩ (fun hHeld => ?_)
  clear hK K
  (try simp only [Act.put, List.setIfInBounds_toArray, List.set_cons_zero, List.set_cons_succ])
  refine wpAnyH_ready (rs := [6]) (by kernel_rfl) (by simp) ?_
  refine AllReadyH.cons (o := { dst := some 34, op := Go.Op.call { callee := Go.Callee.value (Go.Operand.func 90), args := #[Go.Operand.tmp 28, Go.Operand.tmp 30, Go.Operand.tmp 33], argTypes := #[3, 3, 4] }, type := 4, pos := "mail.go:25", after := #[{ on := 0, ground := Go.Ground.data }, { on := 2, ground := Go.Ground.data }, { on := 5, ground := Go.Ground.data }, { on := 5, ground := Go.Ground.chain }], guard := none }) rfl (fun K hK => ?_) AllReadyH.nil
  go_simp
  refine (CT.out _).mono ?_; rintro e w2 ⟨rfl, hw2⟩; subst hw2
  refine hK.out _ _ ⟨y0, y2, yR.out⟩ (fun hHeld => ?_)
  clear hK K
  (try simp only [Act.put, List.setIfInBounds_toArray, List.set_cons_zero, List.set_cons_succ])
  refine wpAnyH_take (i := 7) (oi := { dst := some 35, op := Go.Op.unOp Go.UnOp.not 4 (Go.Operand.tmp 34), type := 4, pos := "mail.go:25", after := #[{ on := 6, ground := Go.Ground.data }], guard := none }) (v := ?_) rfl (by kernel_rfl) (by kernel_rfl) (by kernel_rfl) (fun _ _ _ h => h) (Or.inl ⟨by rfl, ?_⟩) hHeld ?_
  rotate_left
  · intro W hSw
    (try dsimp only at hSw)
    go_simp
    (try with_reducible rfl)
  (try simp only [Act.put, List.setIfInBounds_toArray, List.set_cons_zero, List.set_cons_succ])
  refine wpAnyH_take (i := 8) (oi := { dst := some 36, op := Go.Op.move (Go.Operand.tmp 35), type := 4, pos := "mail.go:25", after := #[{ on := 7, ground := Go.Ground.data }, { on := 6, ground := Go.Ground.chain }], guard := none }) (v := ?_) rfl (by kernel_rfl) (by kernel_rfl) (by kernel_rfl) (fun _ _ _ h => h) (Or.inl ⟨by rfl, ?_⟩) hHeld ?_
  rotate_left
  · intro W hSw
    (try dsimp only at hSw)
    go_simp
    (try with_reducible rfl)
  (try simp only [Act.put, List.setIfInBounds_toArray, List.set_cons_zero, List.set_cons_succ])
  refine wpAnyH_take (i := 9) (oi := { dst := some 37, op := Op.load 51 (Operand.tmp 3), type := 51, pos := "mail.go:25", after := #[{ on := 8, ground := Ground.guard }], guard := some (8, false) }) (v := .agg m.cells.toArray) rfl (by kernel_rfl) (by kernel_rfl) (by kernel_rfl) (fun _ _ _ h => h) (yieldsIf_load_mid (by rfl) 51 (.tmp 3) rfl b 0 rfl m.cells _ (fun W hW => hW.2.2) Tryz.underlying51 rfl i34.out) hHeld ?_
  (try simp only [Act.put, List.setIfInBounds_toArray, List.set_cons_zero, List.set_cons_succ])
  refine wpAnyH_ready (rs := [10]) (by kernel_rfl) (by simp) ?_
  refine AllReadyH.cons (o := { dst := some 38, op := Go.Op.call { callee := Go.Callee.value (Go.Operand.func 93), args := #[Go.Operand.tmp 37], argTypes := #[51] }, type := 4, pos := "mail.go:25", after := #[{ on := 9, ground := Go.Ground.data }, { on := 8, ground := Go.Ground.chain }, { on := 8, ground := Go.Ground.guard }], guard := some (8, false) }) rfl (fun K hK => ?_) AllReadyH.nil
  go_simp
  refine (C33.out _).mono ?_; rintro e w4 ⟨rfl, hb4⟩; have M4 := hid ((M3.out.under (bd w3)).under hb4); have B4 := hid (b2 (b2 B3.out (bd w3)) hb4); have z0 := M4.out 0 _ rfl; have z2 := M4.out 2 _ rfl
  refine hK.out _ _ ⟨z0, z2, fun j u hu => by rw [Nat.zero_add]; exact M4.out j u hu⟩ (fun hHeld => ?_)
  clear hK K
  (try simp only [Act.put, List.setIfInBounds_toArray, List.set_cons_zero, List.set_cons_succ])
  refine wpAnyH_take (i := 11) (oi := { dst := some 39, op := Go.Op.pick (Go.Operand.tmp 36) (Go.Operand.const (Go.Value.bool true)) (Go.Operand.tmp 38), type := 4, pos := "mail.go:25", after := #[{ on := 8, ground := Go.Ground.data }, { on := 10, ground := Go.Ground.data }], guard := none }) (v := ?_) rfl (by kernel_rfl) (by kernel_rfl) (by kernel_rfl) (fun _ _ _ h => h) (Or.inl ⟨by rfl, ?_⟩) hHeld ?_
  rotate_left
  · intro W hSw
    (try dsimp only at hSw)
    go_simp
    (try with_reducible rfl)
  (try simp only [Act.put, List.setIfInBounds_toArray, List.set_cons_zero, List.set_cons_succ])
  refine wpAnyH_take (i := 12) (oi := { dst := some 27, op := Go.Op.assign (Go.Operand.tmp 39), type := 4, pos := "mail.go:25", after := #[{ on := 11, ground := Go.Ground.data }, { on := 10, ground := Go.Ground.chain }], guard := none }) (v := ?_) rfl (by kernel_rfl) (by kernel_rfl) (by kernel_rfl) (fun _ _ _ h => h) (Or.inl ⟨by rfl, ?_⟩) hHeld ?_
  rotate_left
  · intro W hSw
    (try dsimp only at hSw)
    go_simp
    (try with_reducible rfl)
  (try simp only [Act.put, List.setIfInBounds_toArray, List.set_cons_zero, List.set_cons_succ])
  refine wpAnyH_done (by kernel_rfl) ?_ _
  clear hHeld
  clear y0 y2 yM z0 z2 yR i34
  cases sB
  rotate_left
  · have F : Hid (r = 112) := hid (by rw [← hr.out]; rfl)
    clear hr
    go_wp2
    go_ret
    exact ⟨by rw [F.out]; rfl, by first | exact B4.out | (rw [hbb.out]; exact B4.out)⟩
  have F : Hid (r = E) := hid (by rw [← hr.out]; rfl)
  clear hr
  go_wp2_with fail
  refine (HH.out _ _ B4.out M4.out).mono ?_
  rintro e w5 ⟨rfl, hb5⟩
  have B5 := hid (b2 B4.out hb5)
  clear hb5
  go_wp2
  go_ret
  exact ⟨by rw [F.out]; rfl, by first | exact B5.out | (rw [hbb.out]; exact B5.out)⟩
end Go.Proofs.YtdhkdniddjnigaaGreatDoor

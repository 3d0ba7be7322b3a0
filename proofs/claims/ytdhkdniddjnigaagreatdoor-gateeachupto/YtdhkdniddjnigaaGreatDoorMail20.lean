import Derived.Test.YtdhkdniddjnigaaGreatDoorMail19
namespace Go.Proofs.YtdhkdniddjnigaaGreatDoor
open Go.RowKit
set_option linter.unusedVariables false

/-- The lists of a message, as they are read. -/
structure Ml (w : World) (m : Ms) (li : List ByteArray) (le : List Ent) (ls : List Sh) (lx : List Ent) : Prop where
  it : Txts w (.slice m.ra m.rl m.rp) li
  en : Ents w m.ea le
  sh : Shs w m.sa ls
  ex : Ents w m.xa lx
  nr : m.rl = li.length
  ne : m.el = le.length
  ns : m.sl = ls.length
  nx : m.xl = lx.length
  br : m.rl ≤ 9223372036854775807
  be : m.el ≤ 9223372036854775807
  bs : m.sl ≤ 9223372036854775807
  bx : m.xl ≤ 9223372036854775807
theorem Ml.later {w w' : World} {m : Ms} {li : List ByteArray} {le lx : List Ent} {ls : List Sh} (h : Ml w m li le ls lx) (hb : Below w.heap.size w w') : Ml w' m li le ls lx :=
  ⟨h.it.later hb, h.en.later hb, h.sh.later hb, h.ex.later hb, h.nr, h.ne, h.ns, h.nx, h.br, h.be, h.bs, h.bx⟩

set_option maxRecDepth 1000000 in
theorem mayR {w : World} {b : Nat} {m : Ms} {li : List ByteArray} {le lx : List Ent} {ls : List Sh} (h : MsAt w b m) (hl : Ml w m li le ls lx) : Calls Tryz.prog 126 #[.pointer (some ⟨b, 0, none⟩), .int .i32 82] w fun e w' => e = .returned (.bool (chkX m.rc m.rn li == 0)) ∧ Below w.heap.size w w' := by
  have k15 : w.cell? ⟨b, 15, none⟩ = some (.int .i64 m.rc) := h 15 _ rfl
  have k16 : w.cell? ⟨b, 16, none⟩ = some (.int .i64 m.rn) := h 16 _ rfl
  have k17 : w.cell? ⟨b, 17, none⟩ = some (.slice m.ra m.rl m.rp) := h 17 _ rfl
  have C : Hid (Calls Tryz.prog 98 #[resV m.rc m.rn (.slice m.ra m.rl m.rp)] w fun e w' => e = .returned (.int .i64 (chkX m.rc m.rn li)) ∧ Below w.heap.size w w') := hid (checkX_any m.rc m.rn hl.it (by have := hl.nr; have := hl.br; omega))
  generalize chkX m.rc m.rn li = z at C ⊢
  clear h hl
  go_enter Tryz.func126, Tryz.ntmps126
  go_wp2_with fail
  refine C.out.mono ?_
  rintro e w1 ⟨rfl, B1⟩
  have B1 := hid B1
  go_wp2
  go_ret
  exact ⟨rfl, B1.out⟩
set_option maxRecDepth 1000000 in
theorem mayG {w : World} {b : Nat} {m : Ms} {li : List ByteArray} {le lx : List Ent} {ls : List Sh} (hT : Tab w) (h : MsAt w b m) (hl : Ml w m li le ls lx) : Calls Tryz.prog 126 #[.pointer (some ⟨b, 0, none⟩), .int .i32 71] w fun e w' => e = .returned (.bool (cgB m.cf m.cb ls lx)) ∧ Below w.heap.size w w' := by
  have k19 : w.cell? ⟨b, 19, none⟩ = some (.int .i64 m.cf) := h 19 _ rfl
  have k20 : w.cell? ⟨b, 20, none⟩ = some (.int .i64 m.cb) := h 20 _ rfl
  have k21 : w.cell? ⟨b, 21, none⟩ = some (.slice m.sa m.sl m.sp) := h 21 _ rfl
  have k22 : w.cell? ⟨b, 22, none⟩ = some (.slice m.xa m.xl m.xp) := h 22 _ rfl
  have C : Hid (Calls Tryz.prog 172 #[cgV m.cf m.cb m.sa m.sl m.sp m.xa m.xl m.xp] w fun e w' => e = .returned (.int .i64 (cgE (cgB m.cf m.cb ls lx))) ∧ Below w.heap.size w w') := hid (by
    have := cargo_any hT m.cf m.cb hl.sh hl.ex m.sp m.xp (by have := hl.ns; have := hl.bs; omega) (by have := hl.nx; have := hl.bx; omega)
    rw [← hl.ns, ← hl.nx] at this
    exact this)
  generalize cgB m.cf m.cb ls lx = z at C ⊢
  have hz : Hid (z = (cgE z == 0)) := hid (by cases z <;> rfl)
  generalize cgE z = y at C hz
  clear h hl hT
  go_enter Tryz.func126, Tryz.ntmps126
  go_wp2_with fail
  refine C.out.mono ?_
  rintro e w1 ⟨rfl, B1⟩
  have B1 := hid B1
  go_wp2
  go_ret
  exact ⟨by rw [hz.out]; rfl, B1.out⟩
/-- May the op be? -/
def Ms.oB (m : Ms) : Bool := decide (chkA m.ok m.onm.size m.otx.size m.on m.om = 0) && (decide (m.k ≠ 14) || decide (6 ≤ m.ok ∧ m.ok ≤ 8))
set_option maxRecDepth 1000000 in
theorem mayOO {w : World} {b : Nat} {m : Ms} (hT : Tab w) (h : MsAt w b m) : Calls Tryz.prog 126 #[.pointer (some ⟨b, 0, none⟩), .int .i32 79] w fun e w' => e = .returned (.bool m.oB) ∧ Below w.heap.size w w' := by
  have C : Hid (Calls Tryz.prog 169 #[opV m.ok m.onm m.otx m.on m.om] w fun e w' => e = .returned (.int .i64 (chkA m.ok m.onm.size m.otx.size m.on m.om)) ∧ Below w.heap.size w w') := hid (check_any hT m.ok m.onm m.otx m.on m.om)
  have CQ : Hid (∀ W : World, Calls Tryz.prog 170 #[.int .i64 m.ok] W fun e w' => e = .returned (.bool (decide (6 ≤ m.ok ∧ m.ok ≤ 8))) ∧ w' = W) := hid (fun W => query_any m.ok)
  have E : Hid (m.oB = (decide (chkA m.ok m.onm.size m.otx.size m.on m.om = 0) && (decide (m.k ≠ 14) || decide (6 ≤ m.ok ∧ m.ok ≤ 8)))) := hid rfl
  have HM := hid h
  have k10 : w.cell? ⟨b, 10, none⟩ = some (.int .i64 m.ok) := h 10 _ rfl
  have k11 : w.cell? ⟨b, 11, none⟩ = some (.string m.onm) := h 11 _ rfl
  have k12 : w.cell? ⟨b, 12, none⟩ = some (.string m.otx) := h 12 _ rfl
  have k13 : w.cell? ⟨b, 13, none⟩ = some (.int .i64 m.on) := h 13 _ rfl
  have k14 : w.cell? ⟨b, 14, none⟩ = some (.int .i64 m.om) := h 14 _ rfl
  generalize chkA m.ok m.onm.size m.otx.size m.on m.om = z at C E
  generalize decide (6 ≤ m.ok ∧ m.ok ≤ 8) = y at CQ E
  generalize m.oB = x at E ⊢
  clear h hT
  go_enter Tryz.func126, Tryz.ntmps126
  go_wp2_with fail
  refine C.out.mono ?_
  rintro e w1 ⟨rfl, B1⟩
  have h1 := HM.out.under B1
  have B1 := hid B1
  clear k10 k11 k12 k13 k14 C
  have k0 : w1.cell? ⟨b, 0, none⟩ = some (.int .i64 m.k) := h1 0 _ rfl
  have k10 : w1.cell? ⟨b, 10, none⟩ = some (.int .i64 m.ok) := h1 10 _ rfl
  clear h1
  by_cases hz : z = 0
  rotate_left
  · have F : Hid (x = false) := hid (by rw [E.out, decide_eq_false hz]; rfl)
    have ez : (z == 0) = false := by simpa using hz
    clear hz
    go_wp2
    go_ret
    exact ⟨by rw [F.out]; rfl, B1.out⟩
  have ez : (z == 0) = true := by simpa using hz
  by_cases h14 : m.k = 14
  rotate_left
  · have F : Hid (x = true) := hid (by rw [E.out, decide_eq_true hz, decide_eq_true h14]; rfl)
    have e14 : (m.k != 14) = true := by simpa using h14
    clear hz h14
    go_wp2
    go_ret
    exact ⟨by rw [F.out]; rfl, B1.out⟩
  have F : Hid (x = y) := hid (by rw [E.out, decide_eq_true hz, decide_eq_false (by simpa using h14)]; simp)
  have e14 : (m.k != 14) = false := by simpa using h14
  clear hz h14
  go_wp2_with (go_at_call 170; refine (CQ.out _).mono ?_; rintro e w' ⟨rfl, rfl⟩)
  go_ret
  exact ⟨by rw [F.out]; rfl, B1.out⟩
end Go.Proofs.YtdhkdniddjnigaaGreatDoor

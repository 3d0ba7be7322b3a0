import Derived.Test.YteloaggebkbeeaaDoorMail19
namespace Go.Proofs.YteloaggebkbeeaaDoor
open Go.RowKit
set_option linter.unusedVariables false

/-- The lists of a message, as they are read. -/
structure Ml (w : World) (m : Ms) (li : List ByteArray) (le : List Ent) (ls : List Sh) (lx : List Ent) : Prop where
  it : Txts w (.slice m.ra m.rl m.rp) li
  en : Ents w m.ea le
  sh : Shs w m.sa ls
  ex : Ents w m.xa lx
  nr : m.rl = li.length
  ne : m.el = le.length
  ns : m.sl = ls.length
  nx : m.xl = lx.length
  br : m.rl ≤ 9223372036854775807
  be : m.el ≤ 9223372036854775807
  bs : m.sl ≤ 9223372036854775807
  bx : m.xl ≤ 9223372036854775807
theorem Ml.later {w w' : World} {m : Ms} {li : List ByteArray} {le lx : List Ent} {ls : List Sh} (h : Ml w m li le ls lx) (hb : Below w.heap.size w w') : Ml w' m li le ls lx :=
  ⟨h.it.later hb, h.en.later hb, h.sh.later hb, h.ex.later hb, h.nr, h.ne, h.ns, h.nx, h.br, h.be, h.bs, h.bx⟩

set_option maxRecDepth 1000000 in
theorem mayR {w : World} {b : Nat} {m : Ms} {li : List ByteArray} {le lx : List Ent} {ls : List Sh} (h : MsAt w b m) (hl : Ml w m li le ls lx) : Calls Tryd.prog 81 #[.pointer (some ⟨b, 0, none⟩), .int .i32 82] w fun e w' => e = .returned (.bool (chkX m.rc m.rn li == 0)) ∧ Below w.heap.size w w' := by
  have k15 : w.cell? ⟨b, 15, none⟩ = some (.int .i64 m.rc) := h 15 _ rfl
  have k16 : w.cell? ⟨b, 16, none⟩ = some (.int .i64 m.rn) := h 16 _ rfl
  have k17 : w.cell? ⟨b, 17, none⟩ = some (.slice m.ra m.rl m.rp) := h 17 _ rfl
  have C : Hid (Calls Tryd.prog 91 #[resV m.rc m.rn (.slice m.ra m.rl m.rp)] w fun e w' => e = .returned (.int .i64 (chkX m.rc m.rn li)) ∧ Below w.heap.size w w') := hid (checkX_any m.rc m.rn hl.it (by have := hl.nr; have := hl.br; omega))
  generalize chkX m.rc m.rn li = z at C ⊢
  clear h hl
  go_enter Tryd.func81, Tryd.ntmps81
  go_wp2_with fail
  refine C.out.mono ?_
  rintro e w1 ⟨rfl, B1⟩
  have B1 := hid B1
  go_wp2
  go_ret
  exact ⟨rfl, B1.out⟩
set_option maxRecDepth 1000000 in
theorem mayG {w : World} {b : Nat} {m : Ms} {li : List ByteArray} {le lx : List Ent} {ls : List Sh} (hT : Tab w) (h : MsAt w b m) (hl : Ml w m li le ls lx) : Calls Tryd.prog 81 #[.pointer (some ⟨b, 0, none⟩), .int .i32 71] w fun e w' => e = .returned (.bool (cgB m.cf m.cb ls lx)) ∧ Below w.heap.size w w' := by
  have k19 : w.cell? ⟨b, 19, none⟩ = some (.int .i64 m.cf) := h 19 _ rfl
  have k20 : w.cell? ⟨b, 20, none⟩ = some (.int .i64 m.cb) := h 20 _ rfl
  have k21 : w.cell? ⟨b, 21, none⟩ = some (.slice m.sa m.sl m.sp) := h 21 _ rfl
  have k22 : w.cell? ⟨b, 22, none⟩ = some (.slice m.xa m.xl m.xp) := h 22 _ rfl
  have C : Hid (Calls Tryd.prog 93 #[cgV m.cf m.cb m.sa m.sl m.sp m.xa m.xl m.xp] w fun e w' => e = .returned (.int .i64 (cgE (cgB m.cf m.cb ls lx))) ∧ Below w.heap.size w w') := hid (by
    have := cargo_any hT m.cf m.cb hl.sh hl.ex m.sp m.xp (by have := hl.ns; have := hl.bs; omega) (by have := hl.nx; have := hl.bx; omega)
    rw [← hl.ns, ← hl.nx] at this
    exact this)
  generalize cgB m.cf m.cb ls lx = z at C ⊢
  have hz : Hid (z = (cgE z == 0)) := hid (by cases z <;> rfl)
  generalize cgE z = y at C hz
  clear h hl hT
  go_enter Tryd.func81, Tryd.ntmps81
  go_wp2_with fail
  refine C.out.mono ?_
  rintro e w1 ⟨rfl, B1⟩
  have B1 := hid B1
  go_wp2
  go_ret
  exact ⟨by rw [hz.out]; rfl, B1.out⟩
/-- May the op be? -/
def Ms.oB (m : Ms) : Bool := decide (chkA m.ok m.onm.size m.otx.size m.on m.om = 0) && (decide (m.k ≠ 14) || decide (6 ≤ m.ok ∧ m.ok ≤ 8))
set_option maxRecDepth 1000000 in
theorem mayOO {w : World} {b : Nat} {m : Ms} (hT : Tab w) (h : MsAt w b m) : Calls Tryd.prog 81 #[.pointer (some ⟨b, 0, none⟩), .int .i32 79] w fun e w' => e = .returned (.bool m.oB) ∧ Below w.heap.size w w' := by
  have C : Hid (Calls Tryd.prog 23 #[opV m.ok m.onm m.otx m.on m.om] w fun e w' => e = .returned (.int .i64 (chkA m.ok m.onm.size m.otx.size m.on m.om)) ∧ Below w.heap.size w w') := hid (check_any hT m.ok m.onm m.otx m.on m.om)
  have CQ : Hid (∀ W : World, Calls Tryd.prog 31 #[.int .i64 m.ok] W fun e w' => e = .returned (.bool (decide (6 ≤ m.ok ∧ m.ok ≤ 8))) ∧ w' = W) := hid (fun W => query_any m.ok)
  have E : Hid (m.oB = (decide (chkA m.ok m.onm.size m.otx.size m.on m.om = 0) && (decide (m.k ≠ 14) || decide (6 ≤ m.ok ∧ m.ok ≤ 8)))) := hid rfl
  have HM := hid h
  have k10 : w.cell? ⟨b, 10, none⟩ = some (.int .i64 m.ok) := h 10 _ rfl
  have k11 : w.cell? ⟨b, 11, none⟩ = some (.string m.onm) := h 11 _ rfl
  have k12 : w.cell? ⟨b, 12, none⟩ = some (.string m.otx) := h 12 _ rfl
  have k13 : w.cell? ⟨b, 13, none⟩ = some (.int .i64 m.on) := h 13 _ rfl
  have k14 : w.cell? ⟨b, 14, none⟩ = some (.int .i64 m.om) := h 14 _ rfl
  generalize chkA m.ok m.onm.size m.otx.size m.on m.om = z at C E
  generalize decide (6 ≤ m.ok ∧ m.ok ≤ 8) = y at CQ E
  generalize m.oB = x at E ⊢
  clear h hT
  go_enter Tryd.func81, Tryd.ntmps81
  go_wp2_with fail
  refine C.out.mono ?_
  rintro e w1 ⟨rfl, B1⟩
  have h1 := HM.out.under B1
  have B1 := hid B1
  clear k10 k11 k12 k13 k14 C
  have k0 : w1.cell? ⟨b, 0, none⟩ = some (.int .i64 m.k) := h1 0 _ rfl
  have k10 : w1.cell? ⟨b, 10, none⟩ = some (.int .i64 m.ok) := h1 10 _ rfl
  clear h1
  by_cases hz : z = 0
  rotate_left
  · have F : Hid (x = false) := hid (by rw [E.out, decide_eq_false hz]; rfl)
    have ez : (z == 0) = false := by simpa using hz
    clear hz
    go_wp2
    go_ret
    exact ⟨by rw [F.out]; rfl, B1.out⟩
  have ez : (z == 0) = true := by simpa using hz
  by_cases h14 : m.k = 14
  rotate_left
  · have F : Hid (x = true) := hid (by rw [E.out, decide_eq_true hz, decide_eq_true h14]; rfl)
    have e14 : (m.k != 14) = true := by simpa using h14
    clear hz h14
    go_wp2
    go_ret
    exact ⟨by rw [F.out]; rfl, B1.out⟩
  have F : Hid (x = y) := hid (by rw [E.out, decide_eq_true hz, decide_eq_false (by simpa using h14)]; simp)
  have e14 : (m.k != 14) = false := by simpa using h14
  clear hz h14
  go_wp2_with (go_at_call 31; refine (CQ.out _).mono ?_; rintro e w' ⟨rfl, rfl⟩)
  go_ret
  exact ⟨by rw [F.out]; rfl, B1.out⟩
end Go.Proofs.YteloaggebkbeeaaDoor

namespace Go.Proofs.YteloaggebkbeeaaDoor
open Go.RowKit
set_option linter.unusedVariables false

/-- May the entries be? -/
def Ms.eB (m : Ms) (le : List Ent) : Bool := inR (m.el : Int) 1 8 && cgB 0 (m.n - 1) [] le
set_option maxRecDepth 1000000 in
theorem ent107 {w : World} {b : Nat} {m : Ms} {li : List ByteArray} {le lx : List Ent} {ls : List Sh} (hT : Tab w) (h : MsAt w b m) (hl : Ml w m li le ls lx) (hn : 1 ≤ m.n ∧ m.n ≤ 1099511627776) : Calls Tryd.prog 92 #[.pointer (some ⟨b, 0, none⟩)] w fun e w' => e = .returned (.bool (m.eB le)) ∧ Below w.heap.size w w' := by
  have A0 := hid (All.came w)
  have SS : Hid (∀ W, All [inC w] W → W.cell? ⟨b, 4, none⟩ = some (.int .i64 m.n) ∧ W.cell? ⟨b, 18, none⟩ = some (.slice m.ea m.el m.ep)) := hid (fun W hW => by
    have hm := h.under (hW.into (w0 := w) (by simp))
    exact ⟨hm 4 _ rfl, hm 18 _ rfl⟩)
  have CW : Hid (∀ W : World, Calls Tryd.prog 79 #[.int .i64 (m.el : Int), .int .i64 1, .int .i64 8] W fun e w' => e = .returned (.bool (inR (m.el : Int) 1 8)) ∧ w' = W) := hid (fun W => within_b _ _ _)
  have CG : Hid (∀ W, All [inC w] W → Calls Tryd.prog 93 #[.agg #[.int .i64 0, .int .i64 (m.n - 1), .slice none 0 0, .slice m.ea m.el m.ep]] W fun e w' => e = .returned (.int .i64 (cgE (cgB 0 (m.n - 1) [] le))) ∧ All [inC w] w') := hid (fun W hW => by
    have hb := hW.into (w0 := w) (by simp)
    have := cargo_any (hT.below hb) 0 (m.n - 1) (sa := none) (ls := []) (fun i x hx => by simp at hx) (hl.en.later hb) 0 m.ep (by simp) (by have := hl.ne; have := hl.be; omega)
    rw [← hl.ne] at this
    refine this.mono ?_
    rintro e w' ⟨h1, h2⟩
    exact ⟨h1, hW.later h2⟩)
  have E : Hid (m.eB le = (inR (m.el : Int) 1 8 && cgB 0 (m.n - 1) [] le)) := hid rfl
  generalize inR (m.el : Int) 1 8 = z at CW E
  generalize cgB 0 (m.n - 1) [] le = y at CG E
  have hy : Hid (y = (cgE y == 0)) := hid (by cases y <;> rfl)
  generalize cgE y = v at CG hy
  generalize m.eB le = x at E ⊢
  have hw : IntKind.i64.wrap (m.n - 1) = m.n - 1 := by rw [IntKind.wrap_i64]; omega
  have p0 := hid (SS.out _ A0.out)
  obtain ⟨k4, k18⟩ := p0.out
  clear h hl hT hn
  cases z
  · have F : Hid (x = false) := hid (by rw [E.out]; rfl)
    go_enter Tryd.func92, Tryd.ntmps92
    go_wp2_with fail
    refine wp_region_held_drew (S := (fun W => W.cell? ⟨b, 4, none⟩ = some (.int .i64 m.n) ∧ W.cell? ⟨b, 18, none⟩ = some (.slice m.ea m.el m.ep))) (by kernel_rfl) (SS.out _ A0.out.drew) (fun hHeld => ?_)
    refine wpAnyH_take (i := 0) (oi := { dst := some 3, op := Go.Op.move (Go.Operand.tmp 0), type := 94, pos := "fields.go:119", after := #[], guard := none }) (v := ?_) rfl (by kernel_rfl) (by kernel_rfl) (by kernel_rfl) (fun _ _ _ h => h) (Or.inl ⟨by rfl, ?_⟩) hHeld ?_
    rotate_left
    · intro W hSw
      (try dsimp only at hSw)
      go_simp
      (try with_reducible rfl)
    (try simp only [Act.put, List.setIfInBounds_toArray, List.set_cons_zero, List.set_cons_succ])
    refine wpAnyH_take (i := 1) (oi := { dst := some 4, op := Go.Op.nilCheck (Go.Operand.tmp 3), type := 0, pos := "fields.go:119", after := #[{ on := 0, ground := Go.Ground.data }], guard := none }) (v := ?_) rfl (by kernel_rfl) (by kernel_rfl) (by kernel_rfl) (fun _ _ _ h => h) (Or.inl ⟨by rfl, ?_⟩) hHeld ?_
    rotate_left
    · intro W hSw
      (try dsimp only at hSw)
      go_simp
      (try with_reducible rfl)
    (try simp only [Act.put, List.setIfInBounds_toArray, List.set_cons_zero, List.set_cons_succ])
    refine wpAnyH_take (i := 2) (oi := { dst := some 5, op := Go.Op.fieldAddr 41 (Go.Operand.tmp 4) 12, type := 0, pos := "fields.go:119", after := #[{ on := 1, ground := Go.Ground.data }], guard := none }) (v := ?_) rfl (by kernel_rfl) (by kernel_rfl) (by kernel_rfl) (fun _ _ _ h => h) (Or.inl ⟨by rfl, ?_⟩) hHeld ?_
    rotate_left
    · intro W hSw
      (try dsimp only at hSw)
      go_simp
      (try with_reducible rfl)
    (try simp only [Act.put, List.setIfInBounds_toArray, List.set_cons_zero, List.set_cons_succ])
    refine wpAnyH_take (i := 3) (oi := { dst := some 6, op := Go.Op.load 36 (Go.Operand.tmp 5), type := 36, pos := "fields.go:119", after := #[{ on := 2, ground := Go.Ground.data }], guard := none }) (v := ?_) rfl (by kernel_rfl) (by kernel_rfl) (by kernel_rfl) (fun _ _ _ h => h) (Or.inl ⟨by rfl, ?_⟩) hHeld ?_
    rotate_left
    · intro W hSw
      (try dsimp only at hSw)
      go_simp
      (try with_reducible rfl)
    (try simp only [Act.put, List.setIfInBounds_toArray, List.set_cons_zero, List.set_cons_succ])
    refine wpAnyH_take (i := 4) (oi := { dst := some 7, op := Go.Op.call { callee := Go.Callee.builtin Go.Builtin.len, args := #[Go.Operand.tmp 6], argTypes := #[36] }, type := 3, pos := "fields.go:119", after := #[{ on := 3, ground := Go.Ground.data }], guard := none }) (v := ?_) rfl (by kernel_rfl) (by kernel_rfl) (by kernel_rfl) (fun _ _ _ h => h) (Or.inl ⟨by rfl, ?_⟩) hHeld ?_
    rotate_left
    · intro W hSw
      (try dsimp only at hSw)
      go_simp
      (try with_reducible rfl)
    (try simp only [Act.put, List.setIfInBounds_toArray, List.set_cons_zero, List.set_cons_succ])
    refine wpAnyH_ready (rs := [5]) (by kernel_rfl) (by simp) ?_
    refine AllReadyH.cons (o := { dst := some 8, op := Go.Op.call { callee := Go.Callee.value (Go.Operand.func 79), args := #[Go.Operand.tmp 7, Go.Operand.const (Go.Value.int Go.IntKind.i64 1), Go.Operand.const (Go.Value.int Go.IntKind.i64 8)], argTypes := #[3, 3, 3] }, type := 4, pos := "fields.go:119", after := #[{ on := 4, ground := Go.Ground.data }], guard := none }) rfl (fun K hK => ?_) AllReadyH.nil
    go_simp
    refine (CW.out _).mono ?_; rintro e w1 ⟨rfl, hw1⟩; have A1 := hid (A0.out.drew); rw [← hw1] at A1; have p1 := hid (SS.out _ A1.out); clear hw1
    refine hK.out _ _ p1.out (fun hHeld => ?_)
    clear hK K
    (try simp only [Act.put, List.setIfInBounds_toArray, List.set_cons_zero, List.set_cons_succ])
    refine wpAnyH_take (i := 6) (oi := { dst := some 9, op := Go.Op.move (Go.Operand.tmp 8), type := 4, pos := "fields.go:119", after := #[{ on := 5, ground := Go.Ground.data }, { on := 5, ground := Go.Ground.chain }], guard := none }) (v := ?_) rfl (by kernel_rfl) (by kernel_rfl) (by kernel_rfl) (fun _ _ _ h => h) (Or.inl ⟨by rfl, ?_⟩) hHeld ?_
    rotate_left
    · intro W hSw
      (try dsimp only at hSw)
      go_simp
      (try with_reducible rfl)
    (try simp only [Act.put, List.setIfInBounds_toArray, List.set_cons_zero, List.set_cons_succ])
    refine wpAnyH_take (i := 7) (oi := { dst := some 10, op := Go.Op.move (Go.Operand.tmp 0), type := 94, pos := "fields.go:119", after := #[{ on := 6, ground := Go.Ground.guard }], guard := some (6, true) }) (v := undef) rfl (by kernel_rfl) (by kernel_rfl) (by kernel_rfl) (fun _ _ _ h => h) (Or.inr ⟨by rfl, rfl⟩) hHeld ?_
    (try simp only [Act.put, List.setIfInBounds_toArray, List.set_cons_zero, List.set_cons_succ])
    refine wpAnyH_take (i := 8) (oi := { dst := some 11, op := Go.Op.nilCheck (Go.Operand.tmp 10), type := 0, pos := "fields.go:119", after := #[{ on := 7, ground := Go.Ground.data }, { on := 6, ground := Go.Ground.guard }], guard := some (6, true) }) (v := undef) rfl (by kernel_rfl) (by kernel_rfl) (by kernel_rfl) (fun _ _ _ h => h) (Or.inr ⟨by rfl, rfl⟩) hHeld ?_
    (try simp only [Act.put, List.setIfInBounds_toArray, List.set_cons_zero, List.set_cons_succ])
    refine wpAnyH_take (i := 9) (oi := { dst := some 12, op := Go.Op.fieldAddr 41 (Go.Operand.tmp 11) 4, type := 0, pos := "fields.go:119", after := #[{ on := 8, ground := Go.Ground.data }, { on := 6, ground := Go.Ground.guard }], guard := some (6, true) }) (v := undef) rfl (by kernel_rfl) (by kernel_rfl) (by kernel_rfl) (fun _ _ _ h => h) (Or.inr ⟨by rfl, rfl⟩) hHeld ?_
    (try simp only [Act.put, List.setIfInBounds_toArray, List.set_cons_zero, List.set_cons_succ])
    refine wpAnyH_take (i := 10) (oi := { dst := some 13, op := Go.Op.load 3 (Go.Operand.tmp 12), type := 3, pos := "fields.go:119", after := #[{ on := 9, ground := Go.Ground.data }, { on := 6, ground := Go.Ground.guard }], guard := some (6, true) }) (v := undef) rfl (by kernel_rfl) (by kernel_rfl) (by kernel_rfl) (fun _ _ _ h => h) (Or.inr ⟨by rfl, rfl⟩) hHeld ?_
    (try simp only [Act.put, List.setIfInBounds_toArray, List.set_cons_zero, List.set_cons_succ])
    refine wpAnyH_take (i := 11) (oi := { dst := some 14, op := Go.Op.binOp Go.BinOp.sub 3 (Go.Operand.tmp 13) (Go.Operand.const (Go.Value.int Go.IntKind.i64 1)) 3, type := 3, pos := "fields.go:119", after := #[{ on := 10, ground := Go.Ground.data }, { on := 6, ground := Go.Ground.guard }], guard := some (6, true) }) (v := undef) rfl (by kernel_rfl) (by kernel_rfl) (by kernel_rfl) (fun _ _ _ h => h) (Or.inr ⟨by rfl, rfl⟩) hHeld ?_
    (try simp only [Act.put, List.setIfInBounds_toArray, List.set_cons_zero, List.set_cons_succ])
    refine wpAnyH_take (i := 12) (oi := { dst := some 15, op := Go.Op.move (Go.Operand.tmp 0), type := 94, pos := "fields.go:119", after := #[{ on := 6, ground := Go.Ground.guard }], guard := some (6, true) }) (v := undef) rfl (by kernel_rfl) (by kernel_rfl) (by kernel_rfl) (fun _ _ _ h => h) (Or.inr ⟨by rfl, rfl⟩) hHeld ?_
    (try simp only [Act.put, List.setIfInBounds_toArray, List.set_cons_zero, List.set_cons_succ])
    refine wpAnyH_take (i := 13) (oi := { dst := some 16, op := Go.Op.nilCheck (Go.Operand.tmp 15), type := 0, pos := "fields.go:119", after := #[{ on := 12, ground := Go.Ground.data }, { on := 6, ground := Go.Ground.guard }], guard := some (6, true) }) (v := undef) rfl (by kernel_rfl) (by kernel_rfl) (by kernel_rfl) (fun _ _ _ h => h) (Or.inr ⟨by rfl, rfl⟩) hHeld ?_
    (try simp only [Act.put, List.setIfInBounds_toArray, List.set_cons_zero, List.set_cons_succ])
    refine wpAnyH_take (i := 14) (oi := { dst := some 17, op := Go.Op.fieldAddr 41 (Go.Operand.tmp 16) 12, type := 0, pos := "fields.go:119", after := #[{ on := 13, ground := Go.Ground.data }, { on := 6, ground := Go.Ground.guard }], guard := some (6, true) }) (v := undef) rfl (by kernel_rfl) (by kernel_rfl) (by kernel_rfl) (fun _ _ _ h => h) (Or.inr ⟨by rfl, rfl⟩) hHeld ?_
    (try simp only [Act.put, List.setIfInBounds_toArray, List.set_cons_zero, List.set_cons_succ])
    refine wpAnyH_take (i := 15) (oi := { dst := some 18, op := Go.Op.load 36 (Go.Operand.tmp 17), type := 36, pos := "fields.go:119", after := #[{ on := 14, ground := Go.Ground.data }, { on := 6, ground := Go.Ground.guard }], guard := some (6, true) }) (v := undef) rfl (by kernel_rfl) (by kernel_rfl) (by kernel_rfl) (fun _ _ _ h => h) (Or.inr ⟨by rfl, rfl⟩) hHeld ?_
    (try simp only [Act.put, List.setIfInBounds_toArray, List.set_cons_zero, List.set_cons_succ])
    refine wpAnyH_take (i := 16) (oi := { dst := some 19, op := Go.Op.build 39 #[(1, Go.Operand.tmp 14), (3, Go.Operand.tmp 18)], type := 39, pos := "fields.go:119", after := #[{ on := 11, ground := Go.Ground.data }, { on := 15, ground := Go.Ground.data }, { on := 6, ground := Go.Ground.guard }], guard := some (6, true) }) (v := undef) rfl (by kernel_rfl) (by kernel_rfl) (by kernel_rfl) (fun _ _ _ h => h) (Or.inr ⟨by rfl, rfl⟩) hHeld ?_
    (try simp only [Act.put, List.setIfInBounds_toArray, List.set_cons_zero, List.set_cons_succ])
    refine wpAnyH_take (i := 17) (oi := { dst := some 20, op := Go.Op.call { callee := Go.Callee.value (Go.Operand.func 93), args := #[Go.Operand.tmp 19], argTypes := #[39] }, type := 27, pos := "fields.go:119", after := #[{ on := 16, ground := Go.Ground.data }, { on := 6, ground := Go.Ground.chain }, { on := 6, ground := Go.Ground.guard }], guard := some (6, true) }) (v := undef) rfl (by kernel_rfl) (by kernel_rfl) (by kernel_rfl) (fun _ _ _ h => h) (Or.inr ⟨by rfl, rfl⟩) hHeld ?_
    (try simp only [Act.put, List.setIfInBounds_toArray, List.set_cons_zero, List.set_cons_succ])
    refine wpAnyH_take (i := 18) (oi := { dst := some 21, op := Go.Op.binOp Go.BinOp.eql 27 (Go.Operand.tmp 20) (Go.Operand.const (Go.Value.int Go.IntKind.i64 0)) 27, type := 4, pos := "fields.go:119", after := #[{ on := 17, ground := Go.Ground.data }, { on := 6, ground := Go.Ground.guard }], guard := some (6, true) }) (v := undef) rfl (by kernel_rfl) (by kernel_rfl) (by kernel_rfl) (fun _ _ _ h => h) (Or.inr ⟨by rfl, rfl⟩) hHeld ?_
    (try simp only [Act.put, List.setIfInBounds_toArray, List.set_cons_zero, List.set_cons_succ])
    refine wpAnyH_take (i := 19) (oi := { dst := some 22, op := Go.Op.pick (Go.Operand.tmp 9) (Go.Operand.tmp 21) (Go.Operand.const (Go.Value.bool false)), type := 4, pos := "fields.go:119", after := #[{ on := 6, ground := Go.Ground.data }, { on := 18, ground := Go.Ground.data }], guard := none }) (v := ?_) rfl (by kernel_rfl) (by kernel_rfl) (by kernel_rfl) (fun _ _ _ h => h) (Or.inl ⟨by rfl, ?_⟩) hHeld ?_
    rotate_left
    · intro W hSw
      (try dsimp only at hSw)
      go_simp
      (try with_reducible rfl)
    (try simp only [Act.put, List.setIfInBounds_toArray, List.set_cons_zero, List.set_cons_succ])
    refine wpAnyH_take (i := 20) (oi := { dst := some 2, op := Go.Op.assign (Go.Operand.tmp 22), type := 4, pos := "fields.go:119", after := #[{ on := 19, ground := Go.Ground.data }, { on := 17, ground := Go.Ground.chain }, { on := 0, ground := Go.Ground.phase }, { on := 1, ground := Go.Ground.phase }, { on := 2, ground := Go.Ground.phase }, { on := 3, ground := Go.Ground.phase }, { on := 4, ground := Go.Ground.phase }, { on := 5, ground := Go.Ground.phase }, { on := 6, ground := Go.Ground.phase }, { on := 7, ground := Go.Ground.phase }, { on := 8, ground := Go.Ground.phase }, { on := 9, ground := Go.Ground.phase }, { on := 10, ground := Go.Ground.phase }, { on := 11, ground := Go.Ground.phase }, { on := 12, ground := Go.Ground.phase }, { on := 13, ground := Go.Ground.phase }, { on := 14, ground := Go.Ground.phase }, { on := 15, ground := Go.Ground.phase }, { on := 16, ground := Go.Ground.phase }, { on := 17, ground := Go.Ground.phase }, { on := 18, ground := Go.Ground.phase }, { on := 19, ground := Go.Ground.phase }], guard := none }) (v := ?_) rfl (by kernel_rfl) (by kernel_rfl) (by kernel_rfl) (fun _ _ _ h => h) (Or.inl ⟨by rfl, ?_⟩) hHeld ?_
    rotate_left
    · intro W hSw
      (try dsimp only at hSw)
      go_simp
      (try with_reducible rfl)
    (try simp only [Act.put, List.setIfInBounds_toArray, List.set_cons_zero, List.set_cons_succ])
    refine wpAnyH_done (by kernel_rfl) ?_ _
    clear hHeld
    clear p0 p1 k4 k18
    go_wp2
    go_ret
    exact ⟨by rw [F.out]; rfl, A1.out.into (w0 := w) (by simp)⟩
  · have F : Hid (x = y) := hid (by rw [E.out]; rfl)
    go_enter Tryd.func92, Tryd.ntmps92
    go_wp2_with fail
    go_region_held3 (fun W => W.cell? ⟨b, 4, none⟩ = some (.int .i64 m.n) ∧ W.cell? ⟨b, 18, none⟩ = some (.slice m.ea m.el m.ep)) (first | exact p0.out | exact p1.out | exact p2.out)
      (first
        | (go_at_call 79; refine (CW.out _).mono ?_; rintro e w1 ⟨rfl, hw1⟩; have A1 := hid (A0.out.drew); rw [← hw1] at A1; have p1 := hid (SS.out _ A1.out); clear hw1)
        | (go_at_call 93; refine (CG.out _ A1.out).mono ?_; rintro e w2 ⟨rfl, hw2⟩; have A2 := hid hw2; have p2 := hid (SS.out _ A2.out); clear hw2))
    clear p0 p1 p2 k4 k18
    go_wp2
    go_ret
    exact ⟨by rw [F.out, hy.out]; rfl, A2.out.into (w0 := w) (by simp)⟩
end Go.Proofs.YteloaggebkbeeaaDoor

import Derived.Test.YtdhkdniddjnigaaGreatDoorMail20
namespace Go.Proofs.YtdhkdniddjnigaaGreatDoor
open Go.RowKit
set_option linter.unusedVariables false

/-- May the entries be? -/
def Ms.eB (m : Ms) (le : List Ent) : Bool := inR (m.el : Int) 1 8 && cgB 0 (m.n - 1) [] le
set_option maxRecDepth 1000000 in
theorem ent107 {w : World} {b : Nat} {m : Ms} {li : List ByteArray} {le lx : List Ent} {ls : List Sh} (hT : Tab w) (h : MsAt w b m) (hl : Ml w m li le ls lx) (hn : 1 ≤ m.n ∧ m.n ≤ 1099511627776) : Calls Tryz.prog 171 #[.pointer (some ⟨b, 0, none⟩)] w fun e w' => e = .returned (.bool (m.eB le)) ∧ Below w.heap.size w w' := by
  have A0 := hid (All.came w)
  have SS : Hid (∀ W, All [inC w] W → W.cell? ⟨b, 4, none⟩ = some (.int .i64 m.n) ∧ W.cell? ⟨b, 18, none⟩ = some (.slice m.ea m.el m.ep)) := hid (fun W hW => by
    have hm := h.under (hW.into (w0 := w) (by simp))
    exact ⟨hm 4 _ rfl, hm 18 _ rfl⟩)
  have CW : Hid (∀ W : World, Calls Tryz.prog 124 #[.int .i64 (m.el : Int), .int .i64 1, .int .i64 8] W fun e w' => e = .returned (.bool (inR (m.el : Int) 1 8)) ∧ w' = W) := hid (fun W => within_b _ _ _)
  have CG : Hid (∀ W, All [inC w] W → Calls Tryz.prog 172 #[.agg #[.int .i64 0, .int .i64 (m.n - 1), .slice none 0 0, .slice m.ea m.el m.ep]] W fun e w' => e = .returned (.int .i64 (cgE (cgB 0 (m.n - 1) [] le))) ∧ All [inC w] w') := hid (fun W hW => by
    have hb := hW.into (w0 := w) (by simp)
    have := cargo_any (hT.below hb) 0 (m.n - 1) (sa := none) (ls := []) (fun i x hx => by simp at hx) (hl.en.later hb) 0 m.ep (by simp) (by have := hl.ne; have := hl.be; omega)
    rw [← hl.ne] at this
    refine this.mono ?_
    rintro e w' ⟨h1, h2⟩
    exact ⟨h1, hW.later h2⟩)
  have E : Hid (m.eB le = (inR (m.el : Int) 1 8 && cgB 0 (m.n - 1) [] le)) := hid rfl
  generalize inR (m.el : Int) 1 8 = z at CW E
  generalize cgB 0 (m.n - 1) [] le = y at CG E
  have hy : Hid (y = (cgE y == 0)) := hid (by cases y <;> rfl)
  generalize cgE y = v at CG hy
  generalize m.eB le = x at E ⊢
  have hw : IntKind.i64.wrap (m.n - 1) = m.n - 1 := by rw [IntKind.wrap_i64]; omega
  have p0 := hid (SS.out _ A0.out)
  obtain ⟨k4, k18⟩ := p0.out
  clear h hl hT hn
  cases z
  · have F : Hid (x = false) := hid (by rw [E.out]; rfl)
    go_enter Tryz.func171, Tryz.ntmps171
    go_wp2_with fail
    refine wp_region_held_drew (S := (fun W => W.cell? ⟨b, 4, none⟩ = some (.int .i64 m.n) ∧ W.cell? ⟨b, 18, none⟩ = some (.slice m.ea m.el m.ep))) (by kernel_rfl) (SS.out _ A0.out.drew) (fun hHeld => ?_)
    refine wpAnyH_take (i := 0) (oi := { dst := some 3, op := Go.Op.move (Go.Operand.tmp 0), type := 164, pos := "fields.go:119", after := #[], guard := none }) (v := ?_) rfl (by kernel_rfl) (by kernel_rfl) (by kernel_rfl) (fun _ _ _ h => h) (Or.inl ⟨by rfl, ?_⟩) hHeld ?_
    rotate_left
    · intro W hSw
      (try dsimp only at hSw)
      go_simp
      (try with_reducible rfl)
    (try simp only [Act.put, List.setIfInBounds_toArray, List.set_cons_zero, List.set_cons_succ])
    refine wpAnyH_take (i := 1) (oi := { dst := some 4, op := Go.Op.nilCheck (Go.Operand.tmp 3), type := 0, pos := "fields.go:119", after := #[{ on := 0, ground := Go.Ground.data }], guard := none }) (v := ?_) rfl (by kernel_rfl) (by kernel_rfl) (by kernel_rfl) (fun _ _ _ h => h) (Or.inl ⟨by rfl, ?_⟩) hHeld ?_
    rotate_left
    · intro W hSw
      (try dsimp only at hSw)
      go_simp
      (try with_reducible rfl)
    (try simp only [Act.put, List.setIfInBounds_toArray, List.set_cons_zero, List.set_cons_succ])
    refine wpAnyH_take (i := 2) (oi := { dst := some 5, op := Go.Op.fieldAddr 51 (Go.Operand.tmp 4) 12, type := 0, pos := "fields.go:119", after := #[{ on := 1, ground := Go.Ground.data }], guard := none }) (v := ?_) rfl (by kernel_rfl) (by kernel_rfl) (by kernel_rfl) (fun _ _ _ h => h) (Or.inl ⟨by rfl, ?_⟩) hHeld ?_
    rotate_left
    · intro W hSw
      (try dsimp only at hSw)
      go_simp
      (try with_reducible rfl)
    (try simp only [Act.put, List.setIfInBounds_toArray, List.set_cons_zero, List.set_cons_succ])
    refine wpAnyH_take (i := 3) (oi := { dst := some 6, op := Go.Op.load 46 (Go.Operand.tmp 5), type := 46, pos := "fields.go:119", after := #[{ on := 2, ground := Go.Ground.data }], guard := none }) (v := ?_) rfl (by kernel_rfl) (by kernel_rfl) (by kernel_rfl) (fun _ _ _ h => h) (Or.inl ⟨by rfl, ?_⟩) hHeld ?_
    rotate_left
    · intro W hSw
      (try dsimp only at hSw)
      go_simp
      (try with_reducible rfl)
    (try simp only [Act.put, List.setIfInBounds_toArray, List.set_cons_zero, List.set_cons_succ])
    refine wpAnyH_take (i := 4) (oi := { dst := some 7, op := Go.Op.call { callee := Go.Callee.builtin Go.Builtin.len, args := #[Go.Operand.tmp 6], argTypes := #[46] }, type := 3, pos := "fields.go:119", after := #[{ on := 3, ground := Go.Ground.data }], guard := none }) (v := ?_) rfl (by kernel_rfl) (by kernel_rfl) (by kernel_rfl) (fun _ _ _ h => h) (Or.inl ⟨by rfl, ?_⟩) hHeld ?_
    rotate_left
    · intro W hSw
      (try dsimp only at hSw)
      go_simp
      (try with_reducible rfl)
    (try simp only [Act.put, List.setIfInBounds_toArray, List.set_cons_zero, List.set_cons_succ])
    refine wpAnyH_ready (rs := [5]) (by kernel_rfl) (by simp) ?_
    refine AllReadyH.cons (o := { dst := some 8, op := Go.Op.call { callee := Go.Callee.value (Go.Operand.func 124), args := #[Go.Operand.tmp 7, Go.Operand.const (Go.Value.int Go.IntKind.i64 1), Go.Operand.const (Go.Value.int Go.IntKind.i64 8)], argTypes := #[3, 3, 3] }, type := 4, pos := "fields.go:119", after := #[{ on := 4, ground := Go.Ground.data }], guard := none }) rfl (fun K hK => ?_) AllReadyH.nil
    go_simp
    refine (CW.out _).mono ?_; rintro e w1 ⟨rfl, hw1⟩; have A1 := hid (A0.out.drew); rw [← hw1] at A1; have p1 := hid (SS.out _ A1.out); clear hw1
    refine hK.out _ _ p1.out (fun hHeld => ?_)
    clear hK K
    (try simp only [Act.put, List.setIfInBounds_toArray, List.set_cons_zero, List.set_cons_succ])
    refine wpAnyH_take (i := 6) (oi := { dst := some 9, op := Go.Op.move (Go.Operand.tmp 8), type := 4, pos := "fields.go:119", after := #[{ on := 5, ground := Go.Ground.data }, { on := 5, ground := Go.Ground.chain }], guard := none }) (v := ?_) rfl (by kernel_rfl) (by kernel_rfl) (by kernel_rfl) (fun _ _ _ h => h) (Or.inl ⟨by rfl, ?_⟩) hHeld ?_
    rotate_left
    · intro W hSw
      (try dsimp only at hSw)
      go_simp
      (try with_reducible rfl)
    (try simp only [Act.put, List.setIfInBounds_toArray, List.set_cons_zero, List.set_cons_succ])
    refine wpAnyH_take (i := 7) (oi := { dst := some 10, op := Go.Op.move (Go.Operand.tmp 0), type := 164, pos := "fields.go:119", after := #[{ on := 6, ground := Go.Ground.guard }], guard := some (6, true) }) (v := undef) rfl (by kernel_rfl) (by kernel_rfl) (by kernel_rfl) (fun _ _ _ h => h) (Or.inr ⟨by rfl, rfl⟩) hHeld ?_
    (try simp only [Act.put, List.setIfInBounds_toArray, List.set_cons_zero, List.set_cons_succ])
    refine wpAnyH_take (i := 8) (oi := { dst := some 11, op := Go.Op.nilCheck (Go.Operand.tmp 10), type := 0, pos := "fields.go:119", after := #[{ on := 7, ground := Go.Ground.data }, { on := 6, ground := Go.Ground.guard }], guard := some (6, true) }) (v := undef) rfl (by kernel_rfl) (by kernel_rfl) (by kernel_rfl) (fun _ _ _ h => h) (Or.inr ⟨by rfl, rfl⟩) hHeld ?_
    (try simp only [Act.put, List.setIfInBounds_toArray, List.set_cons_zero, List.set_cons_succ])
    refine wpAnyH_take (i := 9) (oi := { dst := some 12, op := Go.Op.fieldAddr 51 (Go.Operand.tmp 11) 4, type := 0, pos := "fields.go:119", after := #[{ on := 8, ground := Go.Ground.data }, { on := 6, ground := Go.Ground.guard }], guard := some (6, true) }) (v := undef) rfl (by kernel_rfl) (by kernel_rfl) (by kernel_rfl) (fun _ _ _ h => h) (Or.inr ⟨by rfl, rfl⟩) hHeld ?_
    (try simp only [Act.put, List.setIfInBounds_toArray, List.set_cons_zero, List.set_cons_succ])
    refine wpAnyH_take (i := 10) (oi := { dst := some 13, op := Go.Op.load 3 (Go.Operand.tmp 12), type := 3, pos := "fields.go:119", after := #[{ on := 9, ground := Go.Ground.data }, { on := 6, ground := Go.Ground.guard }], guard := some (6, true) }) (v := undef) rfl (by kernel_rfl) (by kernel_rfl) (by kernel_rfl) (fun _ _ _ h => h) (Or.inr ⟨by rfl, rfl⟩) hHeld ?_
    (try simp only [Act.put, List.setIfInBounds_toArray, List.set_cons_zero, List.set_cons_succ])
    refine wpAnyH_take (i := 11) (oi := { dst := some 14, op := Go.Op.binOp Go.BinOp.sub 3 (Go.Operand.tmp 13) (Go.Operand.const (Go.Value.int Go.IntKind.i64 1)) 3, type := 3, pos := "fields.go:119", after := #[{ on := 10, ground := Go.Ground.data }, { on := 6, ground := Go.Ground.guard }], guard := some (6, true) }) (v := undef) rfl (by kernel_rfl) (by kernel_rfl) (by kernel_rfl) (fun _ _ _ h => h) (Or.inr ⟨by rfl, rfl⟩) hHeld ?_
    (try simp only [Act.put, List.setIfInBounds_toArray, List.set_cons_zero, List.set_cons_succ])
    refine wpAnyH_take (i := 12) (oi := { dst := some 15, op := Go.Op.move (Go.Operand.tmp 0), type := 164, pos := "fields.go:119", after := #[{ on := 6, ground := Go.Ground.guard }], guard := some (6, true) }) (v := undef) rfl (by kernel_rfl) (by kernel_rfl) (by kernel_rfl) (fun _ _ _ h => h) (Or.inr ⟨by rfl, rfl⟩) hHeld ?_
    (try simp only [Act.put, List.setIfInBounds_toArray, List.set_cons_zero, List.set_cons_succ])
    refine wpAnyH_take (i := 13) (oi := { dst := some 16, op := Go.Op.nilCheck (Go.Operand.tmp 15), type := 0, pos := "fields.go:119", after := #[{ on := 12, ground := Go.Ground.data }, { on := 6, ground := Go.Ground.guard }], guard := some (6, true) }) (v := undef) rfl (by kernel_rfl) (by kernel_rfl) (by kernel_rfl) (fun _ _ _ h => h) (Or.inr ⟨by rfl, rfl⟩) hHeld ?_
    (try simp only [Act.put, List.setIfInBounds_toArray, List.set_cons_zero, List.set_cons_succ])
    refine wpAnyH_take (i := 14) (oi := { dst := some 17, op := Go.Op.fieldAddr 51 (Go.Operand.tmp 16) 12, type := 0, pos := "fields.go:119", after := #[{ on := 13, ground := Go.Ground.data }, { on := 6, ground := Go.Ground.guard }], guard := some (6, true) }) (v := undef) rfl (by kernel_rfl) (by kernel_rfl) (by kernel_rfl) (fun _ _ _ h => h) (Or.inr ⟨by rfl, rfl⟩) hHeld ?_
    (try simp only [Act.put, List.setIfInBounds_toArray, List.set_cons_zero, List.set_cons_succ])
    refine wpAnyH_take (i := 15) (oi := { dst := some 18, op := Go.Op.load 46 (Go.Operand.tmp 17), type := 46, pos := "fields.go:119", after := #[{ on := 14, ground := Go.Ground.data }, { on := 6, ground := Go.Ground.guard }], guard := some (6, true) }) (v := undef) rfl (by kernel_rfl) (by kernel_rfl) (by kernel_rfl) (fun _ _ _ h => h) (Or.inr ⟨by rfl, rfl⟩) hHeld ?_
    (try simp only [Act.put, List.setIfInBounds_toArray, List.set_cons_zero, List.set_cons_succ])
    refine wpAnyH_take (i := 16) (oi := { dst := some 19, op := Go.Op.build 49 #[(1, Go.Operand.tmp 14), (3, Go.Operand.tmp 18)], type := 49, pos := "fields.go:119", after := #[{ on := 11, ground := Go.Ground.data }, { on := 15, ground := Go.Ground.data }, { on := 6, ground := Go.Ground.guard }], guard := some (6, true) }) (v := undef) rfl (by kernel_rfl) (by kernel_rfl) (by kernel_rfl) (fun _ _ _ h => h) (Or.inr ⟨by rfl, rfl⟩) hHeld ?_
    (try simp only [Act.put, List.setIfInBounds_toArray, List.set_cons_zero, List.set_cons_succ])
    refine wpAnyH_take (i := 17) (oi := { dst := some 20, op := Go.Op.call { callee := Go.Callee.value (Go.Operand.func 172), args := #[Go.Operand.tmp 19], argTypes := #[49] }, type := 35, pos := "fields.go:119", after := #[{ on := 16, ground := Go.Ground.data }, { on := 6, ground := Go.Ground.chain }, { on := 6, ground := Go.Ground.guard }], guard := some (6, true) }) (v := undef) rfl (by kernel_rfl) (by kernel_rfl) (by kernel_rfl) (fun _ _ _ h => h) (Or.inr ⟨by rfl, rfl⟩) hHeld ?_
    (try simp only [Act.put, List.setIfInBounds_toArray, List.set_cons_zero, List.set_cons_succ])
    refine wpAnyH_take (i := 18) (oi := { dst := some 21, op := Go.Op.binOp Go.BinOp.eql 35 (Go.Operand.tmp 20) (Go.Operand.const (Go.Value.int Go.IntKind.i64 0)) 35, type := 4, pos := "fields.go:119", after := #[{ on := 17, ground := Go.Ground.data }, { on := 6, ground := Go.Ground.guard }], guard := some (6, true) }) (v := undef) rfl (by kernel_rfl) (by kernel_rfl) (by kernel_rfl) (fun _ _ _ h => h) (Or.inr ⟨by rfl, rfl⟩) hHeld ?_
    (try simp only [Act.put, List.setIfInBounds_toArray, List.set_cons_zero, List.set_cons_succ])
    refine wpAnyH_take (i := 19) (oi := { dst := some 22, op := Go.Op.pick (Go.Operand.tmp 9) (Go.Operand.tmp 21) (Go.Operand.const (Go.Value.bool false)), type := 4, pos := "fields.go:119", after := #[{ on := 6, ground := Go.Ground.data }, { on := 18, ground := Go.Ground.data }], guard := none }) (v := ?_) rfl (by kernel_rfl) (by kernel_rfl) (by kernel_rfl) (fun _ _ _ h => h) (Or.inl ⟨by rfl, ?_⟩) hHeld ?_
    rotate_left
    · intro W hSw
      (try dsimp only at hSw)
      go_simp
      (try with_reducible rfl)
    (try simp only [Act.put, List.setIfInBounds_toArray, List.set_cons_zero, List.set_cons_succ])
    refine wpAnyH_take (i := 20) (oi := { dst := some 2, op := Go.Op.assign (Go.Operand.tmp 22), type := 4, pos := "fields.go:119", after := #[{ on := 19, ground := Go.Ground.data }, { on := 17, ground := Go.Ground.chain }, { on := 0, ground := Go.Ground.phase }, { on := 1, ground := Go.Ground.phase }, { on := 2, ground := Go.Ground.phase }, { on := 3, ground := Go.Ground.phase }, { on := 4, ground := Go.Ground.phase }, { on := 5, ground := Go.Ground.phase }, { on := 6, ground := Go.Ground.phase }, { on := 7, ground := Go.Ground.phase }, { on := 8, ground := Go.Ground.phase }, { on := 9, ground := Go.Ground.phase }, { on := 10, ground := Go.Ground.phase }, { on := 11, ground := Go.Ground.phase }, { on := 12, ground := Go.Ground.phase }, { on := 13, ground := Go.Ground.phase }, { on := 14, ground := Go.Ground.phase }, { on := 15, ground := Go.Ground.phase }, { on := 16, ground := Go.Ground.phase }, { on := 17, ground := Go.Ground.phase }, { on := 18, ground := Go.Ground.phase }, { on := 19, ground := Go.Ground.phase }], guard := none }) (v := ?_) rfl (by kernel_rfl) (by kernel_rfl) (by kernel_rfl) (fun _ _ _ h => h) (Or.inl ⟨by rfl, ?_⟩) hHeld ?_
    rotate_left
    · intro W hSw
      (try dsimp only at hSw)
      go_simp
      (try with_reducible rfl)
    (try simp only [Act.put, List.setIfInBounds_toArray, List.set_cons_zero, List.set_cons_succ])
    refine wpAnyH_done (by kernel_rfl) ?_ _
    clear hHeld
    clear p0 p1 k4 k18
    go_wp2
    go_ret
    exact ⟨by rw [F.out]; rfl, A1.out.into (w0 := w) (by simp)⟩
  · have F : Hid (x = y) := hid (by rw [E.out]; rfl)
    go_enter Tryz.func171, Tryz.ntmps171
    go_wp2_with fail
    go_region_held3 (fun W => W.cell? ⟨b, 4, none⟩ = some (.int .i64 m.n) ∧ W.cell? ⟨b, 18, none⟩ = some (.slice m.ea m.el m.ep)) (first | exact p0.out | exact p1.out | exact p2.out)
      (first
        | (go_at_call 124; refine (CW.out _).mono ?_; rintro e w1 ⟨rfl, hw1⟩; have A1 := hid (A0.out.drew); rw [← hw1] at A1; have p1 := hid (SS.out _ A1.out); clear hw1)
        | (go_at_call 172; refine (CG.out _ A1.out).mono ?_; rintro e w2 ⟨rfl, hw2⟩; have A2 := hid hw2; have p2 := hid (SS.out _ A2.out); clear hw2))
    clear p0 p1 p2 k4 k18
    go_wp2
    go_ret
    exact ⟨by rw [F.out, hy.out]; rfl, A2.out.into (w0 := w) (by simp)⟩
end Go.Proofs.YtdhkdniddjnigaaGreatDoor

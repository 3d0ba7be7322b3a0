import Derived.Test.YtdhkdniddjnigaaGreatDoorPx24
namespace Go.Proofs.YtdhkdniddjnigaaGreatDoor
open Go.RowKit
set_option linter.unusedVariables false

/-- The answer that a reply brings. -/
def ansA (m : Ms) (v : Value) : List Value := [.bool false, .int .i64 m.q, .int .i64 m.n, .int .i64 0, .int .i64 m.rc, .int .i64 m.rn, v]
/-- What the copy of its result is. -/
def CopR (w0 : World) (mm : Ms) : Prop := ∀ W, Below w0.heap.size w0 W → Calls Tryz.prog 96 #[.agg #[.int .i64 mm.rc, .int .i64 mm.rn, .slice mm.ra mm.rl mm.rp]] W fun e w' => ∃ a1 k1 p1, e = .returned (.agg #[.int .i64 mm.rc, .int .i64 mm.rn, .slice a1 k1 p1]) ∧ Below W.heap.size W w'
set_option maxHeartbeats 3200000 in
set_option maxRecDepth 1000000 in
theorem takeReplyA {P : Nat} {x : Px} {b m n1 n2 : Int} {cs : List Comp} {w w0 : World} (h : All (pxL P x b m n1 n2 ++ cs) w) (hin : inC w0 ∈ cs) (mm : Ms) (hz : CopR w0 mm) : Calls Tryz.prog 58 #[.pointer (some ⟨P, 0, none⟩), .agg mm.cells.toArray] w fun e w' => ∃ a1 k1 p1, e = .returned (.agg (ansA mm (.slice a1 k1 p1)).toArray) ∧ All (pxL P (x.reply mm) b m b n2 ++ cs) w' := by
  obtain ⟨M, hM⟩ : ∃ M, Hid (M = w.heap.size) := ⟨_, hid rfl⟩
  obtain ⟨G, hG⟩ : ∃ G, Hid (G = w.heap.size + 1) := ⟨_, hid rfl⟩
  have A1 : Hid (All (blkC M mm.cells 51 :: blkC G [.bool false, .int .i64 0, .int .i64 0, .int .i64 0, .int .i64 0, .int .i64 0, .slice none 0 0] 97 :: (pxL P x b m n1 n2 ++ cs)) ((w.alloc (.cells mm.cells.toArray 51)).alloc (.cells #[.bool false, .int .i64 0, .int .i64 0, .int .i64 0, .int .i64 0, .int .i64 0, .slice none 0 0] 97))) := hid (by
    have := ((h.addBlk mm.cells 51).addBlk [.bool false, .int .i64 0, .int .i64 0, .int .i64 0, .int .i64 0, .int .i64 0, .slice none 0 0] 97).swap
    simp only [World.size_alloc] at this
    rw [hM.out, hG.out]
    exact this)
  have C60 : Hid (∀ W, All (blkC M mm.cells 51 :: blkC G [.bool false, .int .i64 0, .int .i64 0, .int .i64 0, .int .i64 0, .int .i64 0, .slice none 0 0] 97 :: (pxL P x b m n1 n2 ++ cs)) W → Calls Tryz.prog 95 #[.pointer (some ⟨P, 4, none⟩)] W fun e w' => e = .returned (.tuple #[]) ∧ All (blkC M mm.cells 51 :: blkC G [.bool false, .int .i64 0, .int .i64 0, .int .i64 0, .int .i64 0, .int .i64 0, .slice none 0 0] 97 :: (pxL P { x with rq := x.rq.ended } b m b n2 ++ cs)) w') := hid (fun W hW => by
    have h1 := hW.perm (show List.Perm _ (pxL P x b m n1 n2 ++ (blkC M mm.cells 51 :: blkC G [.bool false, .int .i64 0, .int .i64 0, .int .i64 0, .int .i64 0, .int .i64 0, .slice none 0 0] 97 :: cs)) from (((List.Perm.cons _ (List.perm_middle (l₁ := pxL P x b m n1 n2)).symm).trans (List.perm_middle (l₁ := pxL P x b m n1 n2)).symm)))
    refine (endR h1).mono ?_
    rintro e w' ⟨a1, a2⟩
    exact ⟨a1, a2.perm (((List.Perm.cons _ (List.perm_middle (l₁ := pxL P { x with rq := x.rq.ended } b m b n2)).symm).trans (List.perm_middle (l₁ := pxL P { x with rq := x.rq.ended } b m b n2)).symm)).symm⟩)
  have C61 : Hid (∀ W ds, All (ds ++ (pxL P (x.reply mm) b m b n2 ++ cs)) W → Calls Tryz.prog 96 #[.agg #[.int .i64 mm.rc, .int .i64 mm.rn, .slice mm.ra mm.rl mm.rp]] W fun e w' => ∃ a1 k1 p1, e = .returned (.agg #[.int .i64 mm.rc, .int .i64 mm.rn, .slice a1 k1 p1]) ∧ Below W.heap.size W w') := hid (fun W ds h => hz W (h.into (by simp [hin])))
  have HM : Hid (∀ W cs', All (blkC M mm.cells 51 :: cs') W → (fun W => W.cell? ⟨M, 3, none⟩ = some (.int .i64 mm.v) ∧ W.cell? ⟨M, 4, none⟩ = some (.int .i64 mm.n)) W) := hid (fun W cs' hW => ⟨by rw [cell_at hW.1.2.1]; rfl, by rw [cell_at hW.1.2.1]; rfl⟩)
  have SH3 : Hid (∀ W cs', All (blkC M mm.cells 51 :: cs') W → (fun W => W.cell? ⟨M, 8, none⟩ = some (.int .i64 mm.q) ∧ W.cell? ⟨M, 4, none⟩ = some (.int .i64 mm.n) ∧ W.cell? ⟨M, 15, none⟩ = some (.int .i64 mm.rc) ∧ W.cell? ⟨M, 16, none⟩ = some (.int .i64 mm.rn) ∧ W.cell? ⟨M, 17, none⟩ = some (.slice mm.ra mm.rl mm.rp)) W) := hid (fun W cs' hW => ⟨by rw [cell_at hW.1.2.1]; rfl, by rw [cell_at hW.1.2.1]; rfl, by rw [cell_at hW.1.2.1]; rfl, by rw [cell_at hW.1.2.1]; rfl, by rw [cell_at hW.1.2.1]; rfl⟩)
  have I48 : Hid (∀ v, (Tryz.prog.info? 97).map (·.size) = some (ansA mm v).toArray.size) := hid (fun v => info48)
  have O48 : Hid (∀ a1 k1 p1, (ansA mm (.slice a1 k1 p1)).toArray.all (·.oneCell') = true) := hid (fun a1 k1 p1 => by simp [ansA, Value.oneCell'])
  have Z48 : Hid (∀ v, ([.bool false, .int .i64 0, .int .i64 0, .int .i64 0, .int .i64 0, .int .i64 0, .slice none 0 0] : List Value).toArray.size = (ansA mm v).toArray.size) := hid (fun v => rfl)
  obtain ⟨PM, hPM⟩ : ∃ PM, Hid (PM = mm.cells.toArray) := ⟨_, hid rfl⟩
  rw [← hPM.out] at A1 ⊢
  clear h hz hin
  go_enter Tryz.func58, Tryz.ntmps58
  go_upto_region 1 with fail
  simp only [← hM.out]
  have eG : M + 1 = G := by rw [hM.out, hG.out]
  simp only [eG]
  clear eG
  generalize (w.alloc (.cells PM 51)).alloc (.cells #[.bool false, .int .i64 0, .int .i64 0, .int .i64 0, .int .i64 0, .int .i64 0, .slice none 0 0] 97) = w1 at A1 ⊢
  go_wp2_with fail
  refine (C60.out _ A1.out).mono ?_
  rintro e w2 ⟨rfl, hw2⟩
  have A2 := hid hw2
  clear hw2 C60 A1
  go_upto_region 2 with fail
  have A3 := hid A2.out.drew
  have p0 := hid (HM.out _ _ A3.out)
  have c2 : w2.drew.cell? ⟨P, 2, none⟩ = some (.int .i64 x.view) := by rw [cell_at A3.out.tail.tail.px]; rfl
  have c3 : w2.drew.cell? ⟨P, 3, none⟩ = some (.int .i64 x.seen) := by rw [cell_at A3.out.tail.tail.px]; rfl
  have g2 : w2.drew.frozen? ⟨P, 2, none⟩ = false := free_at A3.out.tail.tail.px 2
  have g3 : w2.drew.frozen? ⟨P, 3, none⟩ = false := free_at A3.out.tail.tail.px 3
  have B1 := (A3.out.perm (show List.Perm _ (pxL P { x with rq := x.rq.ended } b m b n2 ++ (blkC M mm.cells 51 :: blkC G [.bool false, .int .i64 0, .int .i64 0, .int .i64 0, .int .i64 0, .int .i64 0, .slice none 0 0] 97 :: cs)) from (((List.Perm.cons _ (List.perm_middle (l₁ := pxL P { x with rq := x.rq.ended } b m b n2)).symm).trans (List.perm_middle (l₁ := pxL P { x with rq := x.rq.ended } b m b n2)).symm)))).setBlk 2 (.int .i64 (max x.view mm.v))
  have B2 := B1.setBlk 3 (.int .i64 (max x.seen mm.n))
  have p1 := hid (HM.out _ _ (B1.perm (List.perm_middle (a := blkC M mm.cells 51) (l₁ := blkC P _ 111 :: boC x.rq.pb b m b :: [boC x.qu.pb b m n2]))))
  have p2 := hid (HM.out _ _ (B2.perm (List.perm_middle (a := blkC M mm.cells 51) (l₁ := blkC P _ 111 :: boC x.rq.pb b m b :: [boC x.qu.pb b m n2]))))
  have B3 : Hid (All (blkC M mm.cells 51 :: blkC G [.bool false, .int .i64 0, .int .i64 0, .int .i64 0, .int .i64 0, .int .i64 0, .slice none 0 0] 97 :: (pxL P (x.reply mm) b m b n2 ++ cs)) ((w2.drew.setCell ⟨P, 2, none⟩ (.int .i64 (max x.view mm.v))).setCell ⟨P, 3, none⟩ (.int .i64 (max x.seen mm.n)))) := hid (All.perm (((List.Perm.cons _ (List.perm_middle (l₁ := pxL P (x.reply mm) b m b n2)).symm).trans (List.perm_middle (l₁ := pxL P (x.reply mm) b m b n2)).symm)).symm B2)
  clear B1 B2
  obtain ⟨m3, m4⟩ := p0.out
  have k2 : w2.cell? ⟨P, 2, none⟩ = some (.int .i64 x.view) := c2
  have k3 : w2.cell? ⟨P, 3, none⟩ = some (.int .i64 x.seen) := c3
  have j2 : w2.frozen? ⟨P, 2, none⟩ = false := g2
  have j3 : w2.frozen? ⟨P, 3, none⟩ = false := g3
  have u3 : w2.cell? ⟨M, 3, none⟩ = some (.int .i64 mm.v) := m3
  have u4 : w2.cell? ⟨M, 4, none⟩ = some (.int .i64 mm.n) := m4
  go_cut [] (fun wx => Hid (All (blkC M mm.cells 51 :: blkC G [.bool false, .int .i64 0, .int .i64 0, .int .i64 0, .int .i64 0, .int .i64 0, .slice none 0 0] 97 :: (pxL P (x.reply mm) b m b n2 ++ cs)) wx))
  case first =>
    go_region
    all_goals
      go_wp2_with fail
      go_meet
      exact B3
  case rest =>
  have A4 := hcut
  clear p0 p1 p2 c2 c3 g2 g3 B3 A3 A2 m3 m4 hcut k2 k3 j2 j3 u3 u4
  go_upto_region 3 with fail
  have A5 := hid A4.out.drew
  have r0 := hid (SH3.out _ _ A5.out)
  refine wp_region_held_drew (S := (fun W => W.cell? ⟨M, 8, none⟩ = some (.int .i64 mm.q) ∧ W.cell? ⟨M, 4, none⟩ = some (.int .i64 mm.n) ∧ W.cell? ⟨M, 15, none⟩ = some (.int .i64 mm.rc) ∧ W.cell? ⟨M, 16, none⟩ = some (.int .i64 mm.rn) ∧ W.cell? ⟨M, 17, none⟩ = some (.slice mm.ra mm.rl mm.rp))) (by kernel_rfl) r0.out (fun hHeld => ?_)
  refine wpAnyH_take (i := 0) (oi := { dst := some 30, op := Go.Op.fieldAddr 51 (Go.Operand.tmp 3) 8, type := 0, pos := "proxy.go:80", after := #[], guard := none }) (v := ?_) rfl (by kernel_rfl) (by kernel_rfl) (by kernel_rfl) (fun _ _ _ h => h) (Or.inl ⟨by rfl, ?_⟩) hHeld ?_
  rotate_left
  · intro W hSw
    (try dsimp only at hSw)
    go_simp
    (try with_reducible rfl)
  (try simp only [Act.put, List.setIfInBounds_toArray, List.set_cons_zero, List.set_cons_succ])
  refine wpAnyH_take (i := 1) (oi := { dst := some 31, op := Go.Op.load 3 (Go.Operand.tmp 30), type := 3, pos := "proxy.go:80", after := #[{ on := 0, ground := Go.Ground.data }], guard := none }) (v := ?_) rfl (by kernel_rfl) (by kernel_rfl) (by kernel_rfl) (fun _ _ _ h => h) (Or.inl ⟨by rfl, ?_⟩) hHeld ?_
  rotate_left
  · intro W hSw
    (try dsimp only at hSw)
    go_simp
    (try with_reducible rfl)
  (try simp only [Act.put, List.setIfInBounds_toArray, List.set_cons_zero, List.set_cons_succ])
  refine wpAnyH_take (i := 2) (oi := { dst := some 32, op := Go.Op.fieldAddr 51 (Go.Operand.tmp 3) 4, type := 0, pos := "proxy.go:80", after := #[], guard := none }) (v := ?_) rfl (by kernel_rfl) (by kernel_rfl) (by kernel_rfl) (fun _ _ _ h => h) (Or.inl ⟨by rfl, ?_⟩) hHeld ?_
  rotate_left
  · intro W hSw
    (try dsimp only at hSw)
    go_simp
    (try with_reducible rfl)
  (try simp only [Act.put, List.setIfInBounds_toArray, List.set_cons_zero, List.set_cons_succ])
  refine wpAnyH_take (i := 3) (oi := { dst := some 33, op := Go.Op.load 3 (Go.Operand.tmp 32), type := 3, pos := "proxy.go:80", after := #[{ on := 2, ground := Go.Ground.data }], guard := none }) (v := ?_) rfl (by kernel_rfl) (by kernel_rfl) (by kernel_rfl) (fun _ _ _ h => h) (Or.inl ⟨by rfl, ?_⟩) hHeld ?_
  rotate_left
  · intro W hSw
    (try dsimp only at hSw)
    go_simp
    (try with_reducible rfl)
  (try simp only [Act.put, List.setIfInBounds_toArray, List.set_cons_zero, List.set_cons_succ])
  refine wpAnyH_take (i := 4) (oi := { dst := some 34, op := Go.Op.fieldAddr 51 (Go.Operand.tmp 3) 11, type := 0, pos := "proxy.go:80", after := #[], guard := none }) (v := ?_) rfl (by kernel_rfl) (by kernel_rfl) (by kernel_rfl) (fun _ _ _ h => h) (Or.inl ⟨by rfl, ?_⟩) hHeld ?_
  rotate_left
  · intro W hSw
    (try dsimp only at hSw)
    go_simp
    (try with_reducible rfl)
  (try simp only [Act.put, List.setIfInBounds_toArray, List.set_cons_zero, List.set_cons_succ])
  refine wpAnyH_take (i := 5) (oi := { dst := some 35, op := Go.Op.load 45 (Go.Operand.tmp 34), type := 45, pos := "proxy.go:80", after := #[{ on := 4, ground := Go.Ground.data }], guard := none }) (v := ?_) rfl (by kernel_rfl) (by kernel_rfl) (by kernel_rfl) (fun _ _ _ h => h) (Or.inl ⟨by rfl, ?_⟩) hHeld ?_
  rotate_left
  · intro W hSw
    (try dsimp only at hSw)
    go_simp
    (try with_reducible rfl)
  (try simp only [Act.put, List.setIfInBounds_toArray, List.set_cons_zero, List.set_cons_succ])
  refine wpAnyH_ready (rs := [6]) (by kernel_rfl) (by simp) ?_
  refine AllReadyH.cons (o := { dst := some 36, op := Go.Op.call { callee := Go.Callee.value (Go.Operand.func 96), args := #[Go.Operand.tmp 35], argTypes := #[45] }, type := 45, pos := "proxy.go:80", after := #[{ on := 5, ground := Go.Ground.data }], guard := none }) rfl (fun K hK => ?_) AllReadyH.nil
  go_simp
  refine (C61.out _ [_, _] A5.out).mono ?_; rintro e w6 ⟨a1, k1, p1, rfl, BB⟩; have A6 := hid (A5.out.later BB); have r1 := hid (SH3.out _ _ A6.out); clear BB
  refine hK.out _ _ r1.out (fun hHeld => ?_)
  clear hK K
  (try simp only [Act.put, List.setIfInBounds_toArray, List.set_cons_zero, List.set_cons_succ])
  refine wpAnyH_take (i := 7) (oi := { dst := some 37, op := Go.Op.build 97 #[(1, Go.Operand.tmp 31), (2, Go.Operand.tmp 33), (4, Go.Operand.tmp 36)], type := 97, pos := "proxy.go:80", after := #[{ on := 1, ground := Go.Ground.data }, { on := 3, ground := Go.Ground.data }, { on := 6, ground := Go.Ground.data }], guard := none }) (v := .agg (ansA mm (.slice a1 k1 p1)).toArray) rfl (by kernel_rfl) (by kernel_rfl) (by kernel_rfl) (fun _ _ _ h => h) (yieldsIf_build (by rfl) 97 _ rfl (ansA mm (.slice a1 k1 p1)).toArray (by kernel_rfl)) hHeld ?_
  (try simp only [Act.put, List.setIfInBounds_toArray, List.set_cons_zero, List.set_cons_succ])
  have A7 := hid (((A6.out.swap.setRow (vs' := ansA mm (.slice a1 k1 p1)))))
  have r2 := hid (SH3.out _ _ A7.out.swap)
  have hg2 := hid A6.out.tail.1.2.1
  refine wpAnyH_ready (rs := [8]) (by kernel_rfl) (by simp) ?_
  refine AllReadyH.cons (o := { dst := none, op := Go.Op.store 97 (Go.Operand.tmp 4) (Go.Operand.tmp 37), type := 0, pos := "proxy.go:80", after := #[{ on := 7, ground := Go.Ground.data }, { on := 6, ground := Go.Ground.chain }, { on := 0, ground := Go.Ground.phase }, { on := 1, ground := Go.Ground.phase }, { on := 2, ground := Go.Ground.phase }, { on := 3, ground := Go.Ground.phase }, { on := 4, ground := Go.Ground.phase }, { on := 5, ground := Go.Ground.phase }, { on := 6, ground := Go.Ground.phase }, { on := 7, ground := Go.Ground.phase }], guard := none }) rfl (fun K hK => ?_) AllReadyH.nil
  rw [if_pos (by rfl)]
  refine wp_store_row 97 _ _ rfl G (ansA mm (.slice a1 k1 p1)).toArray rfl rfl 97 _ hg2.out (I48.out _) (Z48.out _) (O48.out a1 k1 p1) ?_
  refine hK.out _ _ r2.out (fun hHeld => ?_)
  clear hK K
  (try simp only [Act.put])
  refine wpAnyH_done (by kernel_rfl) ?_ _
  clear hHeld
  clear r0 r1 r2 hg2
  go_wp2
  refine bodyPost_ret (v := .agg (ansA mm (.slice a1 k1 p1)).toArray) (results_cell_row (fn := Tryz.f58) rfl _ _ G 97 (ansA mm (.slice a1 k1 p1)).toArray (0, 0) _ rfl A7.out.1.2.1 Tryz.underlying97 rfl (I48.out _)) rfl ?_
  exact ⟨a1, k1, p1, rfl, A7.out.tail.tail⟩
end Go.Proofs.YtdhkdniddjnigaaGreatDoor

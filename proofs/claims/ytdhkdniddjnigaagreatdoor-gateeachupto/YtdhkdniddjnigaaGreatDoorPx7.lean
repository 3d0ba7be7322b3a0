import Derived.Test.YtdhkdniddjnigaaGreatDoorPx6
namespace Go.Proofs.YtdhkdniddjnigaaGreatDoor
open Go.RowKit
set_option linter.unusedVariables false

theorem b2' {w w1 w2 : World} (h : Below w.heap.size w w1) (k : Below w1.heap.size w1 w2) : Below w.heap.size w w2 := h.trans (k.mono h.size)
/-- Where nothing has waited yet. -/
def wt0 (p : Nat) : Wt := ⟨0, false, 0, ⟨#[]⟩, ⟨#[]⟩, 0, 0, 0, p⟩
def Wt.cells (t : Wt) : List Value := [.int .i64 t.num, .bool t.wts, .int .i64 t.ok, .string t.onm, .string t.otx, .int .i64 t.on, .int .i64 t.om, .int .i64 t.left, .pointer (some ⟨t.pb, 0, none⟩)]
theorem info67 : (Tryz.prog.info? 104).map (·.size) = some 9 := by kernel_rfl
set_option maxHeartbeats 800000 in
set_option maxRecDepth 1000000 in
theorem idle_ok {cs : List Comp} {w : World} (h : All cs w) (a0 a1 a2 a3 a4 a5 a6 a7 a8 a9 : Int) (h1 : 1 ≤ a6) (h2 : a6 ≤ a5) (h3 : a5 ≤ 1024) : Calls Tryz.prog 39 #[cfgV a0 a1 a2 a3 a4 a5 a6 a7 a8 a9] w fun e w' => ∃ p, e = .returned (.agg (wt0 p).cells.toArray) ∧ All (boC p a6 a5 a6 :: cs) w' := by
  obtain ⟨G, hG⟩ : ∃ G, Hid (G = w.heap.size + 1) := ⟨_, hid rfl⟩
  have A1 : Hid (All (blkC G [.int .i64 0, .bool false, .int .i64 0, .string ⟨#[]⟩, .string ⟨#[]⟩, .int .i64 0, .int .i64 0, .int .i64 0, .pointer none] 104 :: cs) ((w.alloc (cfgB a0 a1 a2 a3 a4 a5 a6 a7 a8 a9)).alloc (.cells #[.int .i64 0, .bool false, .int .i64 0, .string ⟨#[]⟩, .string ⟨#[]⟩, .int .i64 0, .int .i64 0, .int .i64 0, .pointer none] 104))) := hid (by
    have := (h.alloc (cfgB a0 a1 a2 a3 a4 a5 a6 a7 a8 a9)).addBlk [.int .i64 0, .bool false, .int .i64 0, .string ⟨#[]⟩, .string ⟨#[]⟩, .int .i64 0, .int .i64 0, .int .i64 0, .pointer none] 104
    simp only [World.size_alloc] at this
    rw [hG.out]
    exact this)
  have C := hid (NewBackoff_ok (w := (w.alloc (cfgB a0 a1 a2 a3 a4 a5 a6 a7 a8 a9)).alloc (.cells #[.int .i64 0, .bool false, .int .i64 0, .string ⟨#[]⟩, .string ⟨#[]⟩, .int .i64 0, .int .i64 0, .int .i64 0, .pointer none] 104)) h1 h2 h3)
  have c6 : ((w.alloc (cfgB a0 a1 a2 a3 a4 a5 a6 a7 a8 a9)).alloc (.cells #[.int .i64 0, .bool false, .int .i64 0, .string ⟨#[]⟩, .string ⟨#[]⟩, .int .i64 0, .int .i64 0, .int .i64 0, .pointer none] 104)).cell? ⟨w.heap.size, 6, none⟩ = some (.int .i64 a6) := cell_under (ba _ _) (by simp) (by rw [cell_at (heap_alloc_new w _)]; rfl)
  have c5 : ((w.alloc (cfgB a0 a1 a2 a3 a4 a5 a6 a7 a8 a9)).alloc (.cells #[.int .i64 0, .bool false, .int .i64 0, .string ⟨#[]⟩, .string ⟨#[]⟩, .int .i64 0, .int .i64 0, .int .i64 0, .pointer none] 104)).cell? ⟨w.heap.size, 5, none⟩ = some (.int .i64 a5) := cell_under (ba _ _) (by simp) (by rw [cell_at (heap_alloc_new w _)]; rfl)
  have c6 := hid c6
  have c5 := hid c5
  clear h h1 h2 h3
  go_enter Tryz.func39, Tryz.ntmps39
  go_upto_region 1 with fail
  simp only [← hG.out]
  generalize (w.alloc (cfgB a0 a1 a2 a3 a4 a5 a6 a7 a8 a9)).alloc (.cells #[.int .i64 0, .bool false, .int .i64 0, .string ⟨#[]⟩, .string ⟨#[]⟩, .int .i64 0, .int .i64 0, .int .i64 0, .pointer none] 104) = w1 at A1 C c5 c6 ⊢
  have c5 := c5.out
  have c6 := c6.out
  go_wp2_with fail
  refine C.out.mono ?_
  rintro e w2 ⟨p, rfl, BB, hp, hb⟩
  have A2 : Hid (All (boC p a6 a5 a6 :: (blkC G [.int .i64 0, .bool false, .int .i64 0, .string ⟨#[]⟩, .string ⟨#[]⟩, .int .i64 0, .int .i64 0, .int .i64 0, .pointer none] 104 :: cs)) w2) := hid (A1.out.add (Fr.below BB) (blkC_good _ _ _) hb (fun k hk => by
    have : k = p := by simpa [blkC] using hk
    subst this
    exact ⟨hp, (Array.getElem?_eq_some_iff.1 hb).1⟩))
  have A3 := hid (A2.out.swap.setRow (vs' := (wt0 p).cells))
  have hg := hid (A2.out.tail.1.2.1)
  have I : Hid ((Tryz.prog.info? 104).map (·.size) = some (wt0 p).cells.toArray.size) := hid info67
  have O1 : Hid ((wt0 p).cells.toArray.all (·.oneCell') = true) := hid (by kernel_rfl)
  have Z1 : Hid (([.int .i64 0, .bool false, .int .i64 0, .string ⟨#[]⟩, .string ⟨#[]⟩, .int .i64 0, .int .i64 0, .int .i64 0, .pointer none] : List Value).toArray.size = (wt0 p).cells.toArray.size) := hid rfl
  clear C A1 BB hp hb c5 c6
  go_wp2_with (first | (refine wpList_build rfl 104 _ rfl (by kernel_rfl) ?_) | (refine wpList_store_row rfl 104 _ _ rfl G (wt0 p).cells.toArray rfl (by kernel_rfl) 104 _ hg.out I.out Z1.out O1.out ?_))
  refine bodyPost_ret (v := .agg (wt0 p).cells.toArray) (results_cell_row (fn := Tryz.f39) rfl _ _ G 104 (wt0 p).cells.toArray (0, 0) _ rfl A3.out.1.2.1 Tryz.underlying104 rfl I.out) rfl ?_
  exact ⟨p, rfl, A3.out.tail⟩

def quC (p : Nat) : List Value := (wt0 p).cells ++ [Value.int .i64 0, Value.int .i64 0, Value.int .i64 0]
/-- A client that has asked nothing. -/
def px0 (n id : Int) (p1 p2 : Nat) : Px := ⟨n, id, 0, 0, wt0 p1, wt0 p2, 0, 0, 0⟩
theorem cfg_bounds {a0 a1 a2 a3 a4 a5 a6 a7 a8 a9 : Int} (h : cfgOK a0 a1 a2 a3 a4 a5 a6 a7 a8 a9 = true) : (a0 = 3 ∨ a0 = 5 ∨ a0 = 7) ∧ (1 ≤ a1 ∧ a1 ≤ 8) ∧ 1 ≤ a6 ∧ a6 ≤ a5 ∧ a5 ≤ 1024 := by
  simp only [cfgOK, fl, wi, Bool.and_eq_true, Bool.or_eq_true, decide_eq_true_eq, beq_iff_eq] at h
  omega
set_option maxRecDepth 1000000 in
theorem new_cfg {w : World} (a0 a1 a2 a3 a4 a5 a6 a7 a8 a9 id : Int) (hc : cfgOK a0 a1 a2 a3 a4 a5 a6 a7 a8 a9 = false) : Calls Tryz.prog 21 #[cfgV a0 a1 a2 a3 a4 a5 a6 a7 a8 a9, .int .i64 id] w fun e w' => e = .returned (.tuple #[.pointer none, .int .i64 42]) ∧ Below w.heap.size w w' := by
  have C : Hid (Calls Tryz.prog 38 #[cfgV a0 a1 a2 a3 a4 a5 a6 a7 a8 a9] (w.alloc (cfgB a0 a1 a2 a3 a4 a5 a6 a7 a8 a9)) fun e w' => e = .returned (.int .i64 42) ∧ Below (w.alloc (cfgB a0 a1 a2 a3 a4 a5 a6 a7 a8 a9)).heap.size (w.alloc (cfgB a0 a1 a2 a3 a4 a5 a6 a7 a8 a9)) w') := hid (by have := cfg_any (w := w.alloc (cfgB a0 a1 a2 a3 a4 a5 a6 a7 a8 a9)) a0 a1 a2 a3 a4 a5 a6 a7 a8 a9; rw [cfgE_f hc] at this; exact this)
  clear hc
  go_enter Tryz.func21, Tryz.ntmps21
  go_wp2_with fail
  refine C.out.mono ?_
  rintro e w1 ⟨rfl, BB⟩
  have B1 := hid (b2' (ba w (cfgB a0 a1 a2 a3 a4 a5 a6 a7 a8 a9)) BB)
  clear BB C
  go_wp2
  go_ret2
  exact ⟨rfl, B1.out⟩
set_option maxRecDepth 1000000 in
theorem new_id {w : World} (a0 a1 a2 a3 a4 a5 a6 a7 a8 a9 id : Int) (hc : cfgOK a0 a1 a2 a3 a4 a5 a6 a7 a8 a9 = true) (hi : id < 0 ∨ a1 ≤ id) : Calls Tryz.prog 21 #[cfgV a0 a1 a2 a3 a4 a5 a6 a7 a8 a9, .int .i64 id] w fun e w' => e = .returned (.tuple #[.pointer none, .int .i64 140]) ∧ Below w.heap.size w w' := by
  have C : Hid (Calls Tryz.prog 38 #[cfgV a0 a1 a2 a3 a4 a5 a6 a7 a8 a9] (w.alloc (cfgB a0 a1 a2 a3 a4 a5 a6 a7 a8 a9)) fun e w' => e = .returned (.int .i64 0) ∧ Below (w.alloc (cfgB a0 a1 a2 a3 a4 a5 a6 a7 a8 a9)).heap.size (w.alloc (cfgB a0 a1 a2 a3 a4 a5 a6 a7 a8 a9)) w') := hid (by have := cfg_any (w := w.alloc (cfgB a0 a1 a2 a3 a4 a5 a6 a7 a8 a9)) a0 a1 a2 a3 a4 a5 a6 a7 a8 a9; rw [cfgE_t hc] at this; exact this)
  have c1 : Hid ((w.alloc (cfgB a0 a1 a2 a3 a4 a5 a6 a7 a8 a9)).cell? ⟨w.heap.size, 1, none⟩ = some (.int .i64 a1)) := hid (by rw [cell_at (heap_alloc_new w _)]; rfl)
  clear hc
  by_cases hi1 : id < 0
  · have e1 : decide (id < 0) = true := by simpa using hi1
    clear hi hi1
    go_enter Tryz.func21, Tryz.ntmps21
    go_wp2_with fail
    refine C.out.mono ?_
    rintro e w1 ⟨rfl, BB⟩
    have B1 := hid (b2' (ba w (cfgB a0 a1 a2 a3 a4 a5 a6 a7 a8 a9)) BB)
    clear BB C
    go_wp2
    go_ret2
    exact ⟨rfl, B1.out⟩
  · have e1 : decide (id < 0) = false := by simpa using hi1
    have e2 : decide (a1 ≤ id) = true := by simp; omega
    clear hi hi1
    go_enter Tryz.func21, Tryz.ntmps21
    go_wp2_with fail
    refine C.out.mono ?_
    rintro e w1 ⟨rfl, BB⟩
    have B1 := hid (b2' (ba w (cfgB a0 a1 a2 a3 a4 a5 a6 a7 a8 a9)) BB)
    have c1 : w1.cell? ⟨w.heap.size, 1, none⟩ = some (.int .i64 a1) := cell_under BB (by simp) c1.out
    clear BB C
    go_wp2
    go_ret2
    exact ⟨rfl, B1.out⟩
set_option maxHeartbeats 1600000 in
set_option maxRecDepth 1000000 in
theorem new_ok {cs : List Comp} {w : World} (h : All cs w) (a0 a1 a2 a3 a4 a5 a6 a7 a8 a9 id : Int) (hc : cfgOK a0 a1 a2 a3 a4 a5 a6 a7 a8 a9 = true) (hi : 0 ≤ id) (hi2 : id < a1) : Calls Tryz.prog 21 #[cfgV a0 a1 a2 a3 a4 a5 a6 a7 a8 a9, .int .i64 id] w fun e w' => ∃ P p1 p2, e = .returned (.tuple #[.pointer (some ⟨P, 0, none⟩), .int .i64 0]) ∧ All (pxL P (px0 a0 id p1 p2) a6 a5 a6 a6 ++ cs) w' := by
  obtain ⟨hb0, hb1, hb2, hb3, hb4⟩ := cfg_bounds hc
  have C : Hid (Calls Tryz.prog 38 #[cfgV a0 a1 a2 a3 a4 a5 a6 a7 a8 a9] (w.alloc (cfgB a0 a1 a2 a3 a4 a5 a6 a7 a8 a9)) fun e w' => e = .returned (.int .i64 0) ∧ Below (w.alloc (cfgB a0 a1 a2 a3 a4 a5 a6 a7 a8 a9)).heap.size (w.alloc (cfgB a0 a1 a2 a3 a4 a5 a6 a7 a8 a9)) w') := hid (by have := cfg_any (w := w.alloc (cfgB a0 a1 a2 a3 a4 a5 a6 a7 a8 a9)) a0 a1 a2 a3 a4 a5 a6 a7 a8 a9; rw [cfgE_t hc] at this; exact this)
  obtain ⟨H, hH⟩ : ∃ H, Hid (H = w.heap.size) := ⟨_, hid rfl⟩
  have A1 : Hid (All (blkC H [.int .i64 a0, .int .i64 a1, .int .i64 a2, .int .i64 a3, .int .i64 a4, .int .i64 a5, .int .i64 a6, .int .i64 a7, .int .i64 a8, .int .i64 a9] 23 :: cs) (w.alloc (cfgB a0 a1 a2 a3 a4 a5 a6 a7 a8 a9))) := hid (by rw [hH.out]; exact h.addBlk [.int .i64 a0, .int .i64 a1, .int .i64 a2, .int .i64 a3, .int .i64 a4, .int .i64 a5, .int .i64 a6, .int .i64 a7, .int .i64 a8, .int .i64 a9] 23)
  have C20 : Hid (∀ W cs', All cs' W → Calls Tryz.prog 39 #[cfgV a0 a1 a2 a3 a4 a5 a6 a7 a8 a9] W fun e w' => ∃ p, e = .returned (.agg (wt0 p).cells.toArray) ∧ All (boC p a6 a5 a6 :: cs') w') := hid (fun W cs' hW => idle_ok hW a0 a1 a2 a3 a4 a5 a6 a7 a8 a9 hb2 hb3 hb4)
  have e1 : decide (id < 0) = false := by simpa using hi
  have e2 : decide (a1 ≤ id) = false := by simpa using hi2
  have SG : Hid (∀ W, All (blkC H [.int .i64 a0, .int .i64 a1, .int .i64 a2, .int .i64 a3, .int .i64 a4, .int .i64 a5, .int .i64 a6, .int .i64 a7, .int .i64 a8, .int .i64 a9] 23 :: cs) W → (fun W => W.cell? ⟨H, 0, none⟩ = some (.int .i64 a0) ∧ W.cell? ⟨H, 1, none⟩ = some (.int .i64 a1) ∧ W.cell? ⟨H, 2, none⟩ = some (.int .i64 a2) ∧ W.cell? ⟨H, 3, none⟩ = some (.int .i64 a3) ∧ W.cell? ⟨H, 4, none⟩ = some (.int .i64 a4) ∧ W.cell? ⟨H, 5, none⟩ = some (.int .i64 a5) ∧ W.cell? ⟨H, 6, none⟩ = some (.int .i64 a6) ∧ W.cell? ⟨H, 7, none⟩ = some (.int .i64 a7) ∧ W.cell? ⟨H, 8, none⟩ = some (.int .i64 a8) ∧ W.cell? ⟨H, 9, none⟩ = some (.int .i64 a9)) W) := hid (fun W hW => ⟨by rw [cell_at hW.1.2.1]; rfl, by rw [cell_at hW.1.2.1]; rfl, by rw [cell_at hW.1.2.1]; rfl, by rw [cell_at hW.1.2.1]; rfl, by rw [cell_at hW.1.2.1]; rfl, by rw [cell_at hW.1.2.1]; rfl, by rw [cell_at hW.1.2.1]; rfl, by rw [cell_at hW.1.2.1]; rfl, by rw [cell_at hW.1.2.1]; rfl, by rw [cell_at hW.1.2.1]; rfl⟩)
  clear h hc hi hi2 hb0 hb1 hb2 hb3 hb4
  go_enter Tryz.func21, Tryz.ntmps21
  go_wp2_with fail
  refine C.out.mono ?_
  rintro e w1 ⟨rfl, BB⟩
  have A2 := hid (A1.out.later BB)
  clear BB C A1
  simp only [← hH.out]
  have c1 : w1.cell? ⟨H, 1, none⟩ = some (.int .i64 a1) := (SG.out _ A2.out).2.1
  go_upto_region 6 with fail
  have A4 := hid A2.out.drew
  have p0 := hid (SG.out _ A4.out)
  refine wp_region_held_drew (S := (fun W => W.cell? ⟨H, 0, none⟩ = some (.int .i64 a0) ∧ W.cell? ⟨H, 1, none⟩ = some (.int .i64 a1) ∧ W.cell? ⟨H, 2, none⟩ = some (.int .i64 a2) ∧ W.cell? ⟨H, 3, none⟩ = some (.int .i64 a3) ∧ W.cell? ⟨H, 4, none⟩ = some (.int .i64 a4) ∧ W.cell? ⟨H, 5, none⟩ = some (.int .i64 a5) ∧ W.cell? ⟨H, 6, none⟩ = some (.int .i64 a6) ∧ W.cell? ⟨H, 7, none⟩ = some (.int .i64 a7) ∧ W.cell? ⟨H, 8, none⟩ = some (.int .i64 a8) ∧ W.cell? ⟨H, 9, none⟩ = some (.int .i64 a9))) (by kernel_rfl) p0.out (fun hHeld => ?_)
  refine wpAnyH_take (i := 0) (oi := { dst := some 20, op := Go.Op.fieldAddr 23 (Go.Operand.tmp 2) 0, type := 0, pos := "proxy.go:30", after := #[], guard := none }) (v := ?_) rfl (by kernel_rfl) (by kernel_rfl) (by kernel_rfl) (fun _ _ _ h => h) (Or.inl ⟨by rfl, ?_⟩) hHeld ?_
  rotate_left
  · intro W hSw
    (try dsimp only at hSw)
    go_simp
    (try with_reducible rfl)
  (try simp only [Act.put, List.setIfInBounds_toArray, List.set_cons_zero, List.set_cons_succ])
  refine wpAnyH_take (i := 1) (oi := { dst := some 21, op := Go.Op.load 3 (Go.Operand.tmp 20), type := 3, pos := "proxy.go:30", after := #[{ on := 0, ground := Go.Ground.data }], guard := none }) (v := ?_) rfl (by kernel_rfl) (by kernel_rfl) (by kernel_rfl) (fun _ _ _ h => h) (Or.inl ⟨by rfl, ?_⟩) hHeld ?_
  rotate_left
  · intro W hSw
    (try dsimp only at hSw)
    go_simp
    (try with_reducible rfl)
  (try simp only [Act.put, List.setIfInBounds_toArray, List.set_cons_zero, List.set_cons_succ])
  refine wpAnyH_take (i := 2) (oi := { dst := some 22, op := Go.Op.move (Go.Operand.tmp 1), type := 3, pos := "proxy.go:30", after := #[], guard := none }) (v := ?_) rfl (by kernel_rfl) (by kernel_rfl) (by kernel_rfl) (fun _ _ _ h => h) (Or.inl ⟨by rfl, ?_⟩) hHeld ?_
  rotate_left
  · intro W hSw
    (try dsimp only at hSw)
    go_simp
    (try with_reducible rfl)
  (try simp only [Act.put, List.setIfInBounds_toArray, List.set_cons_zero, List.set_cons_succ])
  refine wpAnyH_take (i := 3) (oi := { dst := some 23, op := Go.Op.load 23 (Go.Operand.tmp 2), type := 23, pos := "proxy.go:30", after := #[], guard := none }) (v := ?_) rfl (by kernel_rfl) (by kernel_rfl) (by kernel_rfl) (fun _ _ _ h => h) (Or.inl ⟨by rfl, ?_⟩) hHeld ?_
  rotate_left
  · intro W hSw
    (try dsimp only at hSw)
    go_simp
    (try with_reducible rfl)
  (try simp only [Act.put, List.setIfInBounds_toArray, List.set_cons_zero, List.set_cons_succ])
  refine wpAnyH_take (i := 6) (oi := { dst := some 26, op := Go.Op.load 23 (Go.Operand.tmp 2), type := 23, pos := "proxy.go:30", after := #[], guard := none }) (v := ?_) rfl (by kernel_rfl) (by kernel_rfl) (by kernel_rfl) (fun _ _ _ h => h) (Or.inl ⟨by rfl, ?_⟩) hHeld ?_
  rotate_left
  · intro W hSw
    (try dsimp only at hSw)
    go_simp
    (try with_reducible rfl)
  (try simp only [Act.put, List.setIfInBounds_toArray, List.set_cons_zero, List.set_cons_succ])
  refine wpAnyH_ready (rs := [4]) (by kernel_rfl) (by simp) ?_
  refine AllReadyH.cons (o := { dst := some 24, op := Go.Op.call { callee := Go.Callee.value (Go.Operand.func 39), args := #[Go.Operand.tmp 23], argTypes := #[23] }, type := 104, pos := "proxy.go:30", after := #[{ on := 3, ground := Go.Ground.data }], guard := none }) rfl (fun K hK => ?_) AllReadyH.nil
  go_simp
  refine (C20.out _ _ A4.out).mono ?_; rintro e w4 ⟨p1, rfl, hw4⟩; have A5 := hid hw4; have q1 := hid (SG.out _ A5.out.tail); clear hw4
  refine hK.out _ _ q1.out (fun hHeld => ?_)
  clear hK K
  (try simp only [Act.put, List.setIfInBounds_toArray, List.set_cons_zero, List.set_cons_succ])
  refine wpAnyH_take (i := 5) (oi := { dst := some 25, op := Go.Op.build 107 #[(0, Go.Operand.tmp 24)], type := 107, pos := "proxy.go:30", after := #[{ on := 4, ground := Go.Ground.data }], guard := none }) (v := .agg (wt0 p1).cells.toArray) rfl (by kernel_rfl) (by kernel_rfl) (by kernel_rfl) (fun _ _ _ h => h) (yieldsIf_build (by rfl) 107 _ rfl (wt0 p1).cells.toArray (by kernel_rfl)) hHeld ?_
  (try simp only [Act.put, List.setIfInBounds_toArray, List.set_cons_zero, List.set_cons_succ])
  refine wpAnyH_ready (rs := [7]) (by kernel_rfl) (by simp) ?_
  refine AllReadyH.cons (o := { dst := some 27, op := Go.Op.call { callee := Go.Callee.value (Go.Operand.func 39), args := #[Go.Operand.tmp 26], argTypes := #[23] }, type := 104, pos := "proxy.go:30", after := #[{ on := 6, ground := Go.Ground.data }, { on := 4, ground := Go.Ground.chain }], guard := none }) rfl (fun K hK => ?_) AllReadyH.nil
  go_simp
  refine (C20.out _ _ A5.out).mono ?_; rintro e w5 ⟨p2, rfl, hw5⟩; have A6 := hid hw5; have q2 := hid (SG.out _ A6.out.tail.tail); clear hw5
  refine hK.out _ _ q2.out (fun hHeld => ?_)
  clear hK K
  (try simp only [Act.put, List.setIfInBounds_toArray, List.set_cons_zero, List.set_cons_succ])
  refine wpAnyH_take (i := 8) (oi := { dst := some 28, op := Go.Op.build 109 #[(0, Go.Operand.tmp 27)], type := 109, pos := "proxy.go:30", after := #[{ on := 7, ground := Go.Ground.data }], guard := none }) (v := .agg (quC p2).toArray) rfl (by kernel_rfl) (by kernel_rfl) (by kernel_rfl) (fun _ _ _ h => h) (yieldsIf_build (by rfl) 109 _ rfl (quC p2).toArray (by kernel_rfl)) hHeld ?_
  (try simp only [Act.put, List.setIfInBounds_toArray, List.set_cons_zero, List.set_cons_succ])
  refine wpAnyH_take (i := 9) (oi := { dst := some 29, op := Go.Op.build 111 #[(0, Go.Operand.tmp 21), (1, Go.Operand.tmp 22), (4, Go.Operand.tmp 25), (5, Go.Operand.tmp 28)], type := 111, pos := "proxy.go:30", after := #[{ on := 1, ground := Go.Ground.data }, { on := 2, ground := Go.Ground.data }, { on := 5, ground := Go.Ground.data }, { on := 8, ground := Go.Ground.data }], guard := none }) (v := .agg (px0 a0 id p1 p2).cells.toArray) rfl (by kernel_rfl) (by kernel_rfl) (by kernel_rfl) (fun _ _ _ h => h) (yieldsIf_build (by rfl) 111 _ rfl (px0 a0 id p1 p2).cells.toArray (by kernel_rfl)) hHeld ?_
  (try simp only [Act.put, List.setIfInBounds_toArray, List.set_cons_zero, List.set_cons_succ])
  refine wpAnyH_ready (rs := [10]) (by kernel_rfl) (by simp) ?_
  refine AllReadyH.cons (o := { dst := some 30, op := Go.Op.box 111 (Go.Operand.tmp 29), type := 70, pos := "proxy.go:30", after := #[{ on := 9, ground := Go.Ground.data }], guard := none }) rfl (fun K hK => ?_) AllReadyH.nil
  go_simp
  have A7 := hid (A6.out.addBlk (px0 a0 id p1 p2).cells 111); have q3 := hid (SG.out _ A7.out.tail.tail.tail)
  refine hK.out _ _ q3.out (fun hHeld => ?_)
  clear hK K
  (try simp only [Act.put, List.setIfInBounds_toArray, List.set_cons_zero, List.set_cons_succ])
  refine wpAnyH_take (i := 11) (oi := { dst := some 4, op := Go.Op.assign (Go.Operand.tmp 30), type := 70, pos := "proxy.go:30", after := #[{ on := 10, ground := Go.Ground.data }, { on := 7, ground := Go.Ground.chain }, { on := 0, ground := Go.Ground.phase }, { on := 1, ground := Go.Ground.phase }, { on := 2, ground := Go.Ground.phase }, { on := 3, ground := Go.Ground.phase }, { on := 4, ground := Go.Ground.phase }, { on := 5, ground := Go.Ground.phase }, { on := 6, ground := Go.Ground.phase }, { on := 7, ground := Go.Ground.phase }, { on := 8, ground := Go.Ground.phase }, { on := 9, ground := Go.Ground.phase }, { on := 10, ground := Go.Ground.phase }], guard := none }) (v := ?_) rfl (by kernel_rfl) (by kernel_rfl) (by kernel_rfl) (fun _ _ _ h => h) (Or.inl ⟨by rfl, ?_⟩) hHeld ?_
  rotate_left
  · intro W hSw
    (try dsimp only at hSw)
    go_simp
    (try with_reducible rfl)
  (try simp only [Act.put, List.setIfInBounds_toArray, List.set_cons_zero, List.set_cons_succ])
  refine wpAnyH_take (i := 12) (oi := { dst := some 5, op := Go.Op.assign (Go.Operand.const (Go.Value.int Go.IntKind.i64 0)), type := 35, pos := "proxy.go:30", after := #[{ on := 11, ground := Go.Ground.chain }, { on := 0, ground := Go.Ground.phase }, { on := 1, ground := Go.Ground.phase }, { on := 2, ground := Go.Ground.phase }, { on := 3, ground := Go.Ground.phase }, { on := 4, ground := Go.Ground.phase }, { on := 5, ground := Go.Ground.phase }, { on := 6, ground := Go.Ground.phase }, { on := 7, ground := Go.Ground.phase }, { on := 8, ground := Go.Ground.phase }, { on := 9, ground := Go.Ground.phase }, { on := 10, ground := Go.Ground.phase }, { on := 11, ground := Go.Ground.phase }], guard := none }) (v := ?_) rfl (by kernel_rfl) (by kernel_rfl) (by kernel_rfl) (fun _ _ _ h => h) (Or.inl ⟨by rfl, ?_⟩) hHeld ?_
  rotate_left
  · intro W hSw
    (try dsimp only at hSw)
    go_simp
    (try with_reducible rfl)
  (try simp only [Act.put, List.setIfInBounds_toArray, List.set_cons_zero, List.set_cons_succ])
  refine wpAnyH_done (by kernel_rfl) ?_ _
  clear hHeld
  clear p0 q1 q2 q3 SG C20 c1
  obtain ⟨P, hP⟩ : ∃ P, Hid (P = w5.heap.size) := ⟨_, hid rfl⟩
  rw [← hP.out] at A7
  simp only [← hP.out]
  have A8 : Hid (All (pxL P (px0 a0 id p1 p2) a6 a5 a6 a6 ++ cs) (w5.alloc (.cells (px0 a0 id p1 p2).cells.toArray 111))) := hid (by
    have h1 := A7.out.perm (List.Perm.cons _ (List.Perm.swap _ _ _))
    exact (h1.perm (List.perm_middle (a := blkC H [.int .i64 a0, .int .i64 a1, .int .i64 a2, .int .i64 a3, .int .i64 a4, .int .i64 a5, .int .i64 a6, .int .i64 a7, .int .i64 a8, .int .i64 a9] 23) (l₁ := [blkC P (px0 a0 id p1 p2).cells 111, boC p1 a6 a5 a6, boC p2 a6 a5 a6]))).tail)
  generalize w5.alloc (.cells (px0 a0 id p1 p2).cells.toArray 111) = w6 at A8 ⊢
  go_wp2
  go_ret2
  first | exact ⟨P, p1, p2, rfl, A8.out⟩ | exact ⟨P, p1, rfl, p2, A8.out⟩
end Go.Proofs.YtdhkdniddjnigaaGreatDoor

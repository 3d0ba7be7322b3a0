import Derived.Test.YtdhkdniddjnigaaGreatDoorJ11
import Derived.Deep.Draws
import Derived.Deep.Upon
import Derived.Deep.QuietTactic
import Derived.BigQuiet
import Derived.Test.YtdhkdniddjnigaaGreatDoorJ7
import Derived.Test.YtdhkdniddjnigaaGreatDoorJ4
import Derived.Test.YtdhkdniddjnigaaGreatDoorJ5
namespace Go.Proofs.YtdhkdniddjnigaaGreatDoor
open Go.RowKit
set_option linter.unusedVariables false

theorem b2' {w w1 w2 : World} (h : Below w.heap.size w w1) (k : Below w1.heap.size w1 w2) : Below w.heap.size w w2 := h.trans (k.mono h.size)
/-- Where nothing has waited yet. -/
def wt0 (p : Nat) : Wt := ⟨0, false, 0, ⟨#[]⟩, ⟨#[]⟩, 0, 0, 0, p⟩
def Wt.cells (t : Wt) : List Value := [.int .i64 t.num, .bool t.wts, .int .i64 t.ok, .string t.onm, .string t.otx, .int .i64 t.on, .int .i64 t.om, .int .i64 t.left, .pointer (some ⟨t.pb, 0, none⟩)]
theorem info67 : (Tryz.prog.info? 104).map (·.size) = some 9 := by kernel_rfl
set_option maxHeartbeats 800000 in
set_option maxRecDepth 1000000 in
theorem idle_ok {cs : List Comp} {w : World} (h : All cs w) (a0 a1 a2 a3 a4 a5 a6 a7 a8 a9 : Int) (h1 : 1 ≤ a6) (h2 : a6 ≤ a5) (h3 : a5 ≤ 1024) : Calls Tryz.prog 39 #[cfgV a0 a1 a2 a3 a4 a5 a6 a7 a8 a9] w fun e w' => ∃ p, e = .returned (.agg (wt0 p).cells.toArray) ∧ All (boC p a6 a5 a6 :: cs) w' := by
  obtain ⟨G, hG⟩ : ∃ G, Hid (G = w.heap.size + 1) := ⟨_, hid rfl⟩
  have A1 : Hid (All (blkC G [.int .i64 0, .bool false, .int .i64 0, .string ⟨#[]⟩, .string ⟨#[]⟩, .int .i64 0, .int .i64 0, .int .i64 0, .pointer none] 104 :: cs) ((w.alloc (cfgB a0 a1 a2 a3 a4 a5 a6 a7 a8 a9)).alloc (.cells #[.int .i64 0, .bool false, .int .i64 0, .string ⟨#[]⟩, .string ⟨#[]⟩, .int .i64 0, .int .i64 0, .int .i64 0, .pointer none] 104))) := hid (by
    have := (h.alloc (cfgB a0 a1 a2 a3 a4 a5 a6 a7 a8 a9)).addBlk [.int .i64 0, .bool false, .int .i64 0, .string ⟨#[]⟩, .string ⟨#[]⟩, .int .i64 0, .int .i64 0, .int .i64 0, .pointer none] 104
    simp only [World.size_alloc] at this
    rw [hG.out]
    exact this)
  have C := hid (NewBackoff_ok (w := (w.alloc (cfgB a0 a1 a2 a3 a4 a5 a6 a7 a8 a9)).alloc (.cells #[.int .i64 0, .bool false, .int .i64 0, .string ⟨#[]⟩, .string ⟨#[]⟩, .int .i64 0, .int .i64 0, .int .i64 0, .pointer none] 104)) h1 h2 h3)
  have c6 : ((w.alloc (cfgB a0 a1 a2 a3 a4 a5 a6 a7 a8 a9)).alloc (.cells #[.int .i64 0, .bool false, .int .i64 0, .string ⟨#[]⟩, .string ⟨#[]⟩, .int .i64 0, .int .i64 0, .int .i64 0, .pointer none] 104)).cell? ⟨w.heap.size, 6, none⟩ = some (.int .i64 a6) := cell_under (ba _ _) (by simp) (by rw [cell_at (heap_alloc_new w _)]; rfl)
  have c5 : ((w.alloc (cfgB a0 a1 a2 a3 a4 a5 a6 a7 a8 a9)).alloc (.cells #[.int .i64 0, .bool false, .int .i64 0, .string ⟨#[]⟩, .string ⟨#[]⟩, .int .i64 0, .int .i64 0, .int .i64 0, .pointer none] 104)).cell? ⟨w.heap.size, 5, none⟩ = some (.int .i64 a5) := cell_under (ba _ _) (by simp) (by rw [cell_at (heap_alloc_new w _)]; rfl)
  have c6 := hid c6
  have c5 := hid c5
  clear h h1 h2 h3
  go_enter Tryz.func39, Tryz.ntmps39
  go_upto_region 1 with fail
  simp only [← hG.out]
  generalize (w.alloc (cfgB a0 a1 a2 a3 a4 a5 a6 a7 a8 a9)).alloc (.cells #[.int .i64 0, .bool false, .int .i64 0, .string ⟨#[]⟩, .string ⟨#[]⟩, .int .i64 0, .int .i64 0, .int .i64 0, .pointer none] 104) = w1 at A1 C c5 c6 ⊢
  have c5 := c5.out
  have c6 := c6.out
  go_wp2_with fail
  refine C.out.mono ?_
  rintro e w2 ⟨p, rfl, BB, hp, hb⟩
  have A2 : Hid (All (boC p a6 a5 a6 :: (blkC G [.int .i64 0, .bool false, .int .i64 0, .string ⟨#[]⟩, .string ⟨#[]⟩, .int .i64 0, .int .i64 0, .int .i64 0, .pointer none] 104 :: cs)) w2) := hid (A1.out.add (Fr.below BB) (blkC_good _ _ _) hb (fun k hk => by
    have : k = p := by simpa [blkC] using hk
    subst this
    exact ⟨hp, (Array.getElem?_eq_some_iff.1 hb).1⟩))
  have A3 := hid (A2.out.swap.setRow (vs' := (wt0 p).cells))
  have hg := hid (A2.out.tail.1.2.1)
  have I : Hid ((Tryz.prog.info? 104).map (·.size) = some (wt0 p).cells.toArray.size) := hid info67
  have O1 : Hid ((wt0 p).cells.toArray.all (·.oneCell') = true) := hid (by kernel_rfl)
  have Z1 : Hid (([.int .i64 0, .bool false, .int .i64 0, .string ⟨#[]⟩, .string ⟨#[]⟩, .int .i64 0, .int .i64 0, .int .i64 0, .pointer none] : List Value).toArray.size = (wt0 p).cells.toArray.size) := hid rfl
  clear C A1 BB hp hb c5 c6
  go_wp2_with (first | (refine wpList_build rfl 104 _ rfl (by kernel_rfl) ?_) | (refine wpList_store_row rfl 104 _ _ rfl G (wt0 p).cells.toArray rfl (by kernel_rfl) 104 _ hg.out I.out Z1.out O1.out ?_))
  refine bodyPost_ret (v := .agg (wt0 p).cells.toArray) (results_cell_row (fn := Tryz.f39) rfl _ _ G 104 (wt0 p).cells.toArray (0, 0) _ rfl A3.out.1.2.1 Tryz.underlying104 rfl I.out) rfl ?_
  exact ⟨p, rfl, A3.out.tail⟩

def quC (p : Nat) : List Value := (wt0 p).cells ++ [Value.int .i64 0, Value.int .i64 0, Value.int .i64 0]
/-- A client that has asked nothing. -/
def px0 (n id : Int) (p1 p2 : Nat) : Px := ⟨n, id, 0, 0, wt0 p1, wt0 p2, 0, 0, 0⟩
theorem cfg_bounds {a0 a1 a2 a3 a4 a5 a6 a7 a8 a9 : Int} (h : cfgOK a0 a1 a2 a3 a4 a5 a6 a7 a8 a9 = true) : (a0 = 3 ∨ a0 = 5 ∨ a0 = 7) ∧ (1 ≤ a1 ∧ a1 ≤ 8) ∧ 1 ≤ a6 ∧ a6 ≤ a5 ∧ a5 ≤ 1024 := by
  simp only [cfgOK, fl, wi, Bool.and_eq_true, Bool.or_eq_true, decide_eq_true_eq, beq_iff_eq] at h
  omega
set_option maxRecDepth 1000000 in
theorem new_cfg {w : World} (a0 a1 a2 a3 a4 a5 a6 a7 a8 a9 id : Int) (hc : cfgOK a0 a1 a2 a3 a4 a5 a6 a7 a8 a9 = false) : Calls Tryz.prog 21 #[cfgV a0 a1 a2 a3 a4 a5 a6 a7 a8 a9, .int .i64 id] w fun e w' => e = .returned (.tuple #[.pointer none, .int .i64 42]) ∧ Below w.heap.size w w' := by
  have C : Hid (Calls Tryz.prog 38 #[cfgV a0 a1 a2 a3 a4 a5 a6 a7 a8 a9] (w.alloc (cfgB a0 a1 a2 a3 a4 a5 a6 a7 a8 a9)) fun e w' => e = .returned (.int .i64 42) ∧ Below (w.alloc (cfgB a0 a1 a2 a3 a4 a5 a6 a7 a8 a9)).heap.size (w.alloc (cfgB a0 a1 a2 a3 a4 a5 a6 a7 a8 a9)) w') := hid (by have := cfg_any (w := w.alloc (cfgB a0 a1 a2 a3 a4 a5 a6 a7 a8 a9)) a0 a1 a2 a3 a4 a5 a6 a7 a8 a9; rw [cfgE_f hc] at this; exact this)
  clear hc
  go_enter Tryz.func21, Tryz.ntmps21
  go_wp2_with fail
  refine C.out.mono ?_
  rintro e w1 ⟨rfl, BB⟩
  have B1 := hid (b2' (ba w (cfgB a0 a1 a2 a3 a4 a5 a6 a7 a8 a9)) BB)
  clear BB C
  go_wp2
  go_ret2
  exact ⟨rfl, B1.out⟩
set_option maxRecDepth 1000000 in
theorem new_id {w : World} (a0 a1 a2 a3 a4 a5 a6 a7 a8 a9 id : Int) (hc : cfgOK a0 a1 a2 a3 a4 a5 a6 a7 a8 a9 = true) (hi : id < 0 ∨ a1 ≤ id) : Calls Tryz.prog 21 #[cfgV a0 a1 a2 a3 a4 a5 a6 a7 a8 a9, .int .i64 id] w fun e w' => e = .returned (.tuple #[.pointer none, .int .i64 140]) ∧ Below w.heap.size w w' := by
  have C : Hid (Calls Tryz.prog 38 #[cfgV a0 a1 a2 a3 a4 a5 a6 a7 a8 a9] (w.alloc (cfgB a0 a1 a2 a3 a4 a5 a6 a7 a8 a9)) fun e w' => e = .returned (.int .i64 0) ∧ Below (w.alloc (cfgB a0 a1 a2 a3 a4 a5 a6 a7 a8 a9)).heap.size (w.alloc (cfgB a0 a1 a2 a3 a4 a5 a6 a7 a8 a9)) w') := hid (by have := cfg_any (w := w.alloc (cfgB a0 a1 a2 a3 a4 a5 a6 a7 a8 a9)) a0 a1 a2 a3 a4 a5 a6 a7 a8 a9; rw [cfgE_t hc] at this; exact this)
  have c1 : Hid ((w.alloc (cfgB a0 a1 a2 a3 a4 a5 a6 a7 a8 a9)).cell? ⟨w.heap.size, 1, none⟩ = some (.int .i64 a1)) := hid (by rw [cell_at (heap_alloc_new w _)]; rfl)
  clear hc
  by_cases hi1 : id < 0
  · have e1 : decide (id < 0) = true := by simpa using hi1
    clear hi hi1
    go_enter Tryz.func21, Tryz.ntmps21
    go_wp2_with fail
    refine C.out.mono ?_
    rintro e w1 ⟨rfl, BB⟩
    have B1 := hid (b2' (ba w (cfgB a0 a1 a2 a3 a4 a5 a6 a7 a8 a9)) BB)
    clear BB C
    go_wp2
    go_ret2
    exact ⟨rfl, B1.out⟩
  · have e1 : decide (id < 0) = false := by simpa using hi1
    have e2 : decide (a1 ≤ id) = true := by simp; omega
    clear hi hi1
    go_enter Tryz.func21, Tryz.ntmps21
    go_wp2_with fail
    refine C.out.mono ?_
    rintro e w1 ⟨rfl, BB⟩
    have B1 := hid (b2' (ba w (cfgB a0 a1 a2 a3 a4 a5 a6 a7 a8 a9)) BB)
    have c1 : w1.cell? ⟨w.heap.size, 1, none⟩ = some (.int .i64 a1) := cell_under BB (by simp) c1.out
    clear BB C
    go_wp2
    go_ret2
    exact ⟨rfl, B1.out⟩
set_option maxHeartbeats 1600000 in
set_option maxRecDepth 1000000 in
theorem new_ok {cs : List Comp} {w : World} (h : All cs w) (a0 a1 a2 a3 a4 a5 a6 a7 a8 a9 id : Int) (hc : cfgOK a0 a1 a2 a3 a4 a5 a6 a7 a8 a9 = true) (hi : 0 ≤ id) (hi2 : id < a1) : Calls Tryz.prog 21 #[cfgV a0 a1 a2 a3 a4 a5 a6 a7 a8 a9, .int .i64 id] w fun e w' => ∃ P p1 p2, e = .returned (.tuple #[.pointer (some ⟨P, 0, none⟩), .int .i64 0]) ∧ All (pxL P (px0 a0 id p1 p2) a6 a5 a6 a6 ++ cs) w' := by
  obtain ⟨hb0, hb1, hb2, hb3, hb4⟩ := cfg_bounds hc
  have C : Hid (Calls Tryz.prog 38 #[cfgV a0 a1 a2 a3 a4 a5 a6 a7 a8 a9] (w.alloc (cfgB a0 a1 a2 a3 a4 a5 a6 a7 a8 a9)) fun e w' => e = .returned (.int .i64 0) ∧ Below (w.alloc (cfgB a0 a1 a2 a3 a4 a5 a6 a7 a8 a9)).heap.size (w.alloc (cfgB a0 a1 a2 a3 a4 a5 a6 a7 a8 a9)) w') := hid (by have := cfg_any (w := w.alloc (cfgB a0 a1 a2 a3 a4 a5 a6 a7 a8 a9)) a0 a1 a2 a3 a4 a5 a6 a7 a8 a9; rw [cfgE_t hc] at this; exact this)
  obtain ⟨H, hH⟩ : ∃ H, Hid (H = w.heap.size) := ⟨_, hid rfl⟩
  have A1 : Hid (All (blkC H [.int .i64 a0, .int .i64 a1, .int .i64 a2, .int .i64 a3, .int .i64 a4, .int .i64 a5, .int .i64 a6, .int .i64 a7, .int .i64 a8, .int .i64 a9] 23 :: cs) (w.alloc (cfgB a0 a1 a2 a3 a4 a5 a6 a7 a8 a9))) := hid (by rw [hH.out]; exact h.addBlk [.int .i64 a0, .int .i64 a1, .int .i64 a2, .int .i64 a3, .int .i64 a4, .int .i64 a5, .int .i64 a6, .int .i64 a7, .int .i64 a8, .int .i64 a9] 23)
  have C20 : Hid (∀ W cs', All cs' W → Calls Tryz.prog 39 #[cfgV a0 a1 a2 a3 a4 a5 a6 a7 a8 a9] W fun e w' => ∃ p, e = .returned (.agg (wt0 p).cells.toArray) ∧ All (boC p a6 a5 a6 :: cs') w') := hid (fun W cs' hW => idle_ok hW a0 a1 a2 a3 a4 a5 a6 a7 a8 a9 hb2 hb3 hb4)
  have e1 : decide (id < 0) = false := by simpa using hi
  have e2 : decide (a1 ≤ id) = false := by simpa using hi2
  have SG : Hid (∀ W, All (blkC H [.int .i64 a0, .int .i64 a1, .int .i64 a2, .int .i64 a3, .int .i64 a4, .int .i64 a5, .int .i64 a6, .int .i64 a7, .int .i64 a8, .int .i64 a9] 23 :: cs) W → (fun W => W.cell? ⟨H, 0, none⟩ = some (.int .i64 a0) ∧ W.cell? ⟨H, 1, none⟩ = some (.int .i64 a1) ∧ W.cell? ⟨H, 2, none⟩ = some (.int .i64 a2) ∧ W.cell? ⟨H, 3, none⟩ = some (.int .i64 a3) ∧ W.cell? ⟨H, 4, none⟩ = some (.int .i64 a4) ∧ W.cell? ⟨H, 5, none⟩ = some (.int .i64 a5) ∧ W.cell? ⟨H, 6, none⟩ = some (.int .i64 a6) ∧ W.cell? ⟨H, 7, none⟩ = some (.int .i64 a7) ∧ W.cell? ⟨H, 8, none⟩ = some (.int .i64 a8) ∧ W.cell? ⟨H, 9, none⟩ = some (.int .i64 a9)) W) := hid (fun W hW => ⟨by rw [cell_at hW.1.2.1]; rfl, by rw [cell_at hW.1.2.1]; rfl, by rw [cell_at hW.1.2.1]; rfl, by rw [cell_at hW.1.2.1]; rfl, by rw [cell_at hW.1.2.1]; rfl, by rw [cell_at hW.1.2.1]; rfl, by rw [cell_at hW.1.2.1]; rfl, by rw [cell_at hW.1.2.1]; rfl, by rw [cell_at hW.1.2.1]; rfl, by rw [cell_at hW.1.2.1]; rfl⟩)
  clear h hc hi hi2 hb0 hb1 hb2 hb3 hb4
  go_enter Tryz.func21, Tryz.ntmps21
  go_wp2_with fail
  refine C.out.mono ?_
  rintro e w1 ⟨rfl, BB⟩
  have A2 := hid (A1.out.later BB)
  clear BB C A1
  simp only [← hH.out]
  have c1 : w1.cell? ⟨H, 1, none⟩ = some (.int .i64 a1) := (SG.out _ A2.out).2.1
  go_upto_region 6 with fail
  have A4 := hid A2.out.drew
  have p0 := hid (SG.out _ A4.out)
  refine wp_region_held_drew (S := (fun W => W.cell? ⟨H, 0, none⟩ = some (.int .i64 a0) ∧ W.cell? ⟨H, 1, none⟩ = some (.int .i64 a1) ∧ W.cell? ⟨H, 2, none⟩ = some (.int .i64 a2) ∧ W.cell? ⟨H, 3, none⟩ = some (.int .i64 a3) ∧ W.cell? ⟨H, 4, none⟩ = some (.int .i64 a4) ∧ W.cell? ⟨H, 5, none⟩ = some (.int .i64 a5) ∧ W.cell? ⟨H, 6, none⟩ = some (.int .i64 a6) ∧ W.cell? ⟨H, 7, none⟩ = some (.int .i64 a7) ∧ W.cell? ⟨H, 8, none⟩ = some (.int .i64 a8) ∧ W.cell? ⟨H, 9, none⟩ = some (.int .i64 a9))) (by kernel_rfl) p0.out (fun hHeld => ?_)
  refine wpAnyH_take (i := 0) (oi := { dst := some 20, op := Go.Op.fieldAddr 23 (Go.Operand.tmp 2) 0, type := 0, pos := "proxy.go:30", after := #[], guard := none }) (v := ?_) rfl (by kernel_rfl) (by kernel_rfl) (by kernel_rfl) (fun _ _ _ h => h) (Or.inl ⟨by rfl, ?_⟩) hHeld ?_
  rotate_left
  · intro W hSw
    (try dsimp only at hSw)
    go_simp
    (try with_reducible rfl)
  (try simp only [Act.put, List.setIfInBounds_toArray, List.set_cons_zero, List.set_cons_succ])
  refine wpAnyH_take (i := 1) (oi := { dst := some 21, op := Go.Op.load 3 (Go.Operand.tmp 20), type := 3, pos := "proxy.go:30", after := #[{ on := 0, ground := Go.Ground.data }], guard := none }) (v := ?_) rfl (by kernel_rfl) (by kernel_rfl) (by kernel_rfl) (fun _ _ _ h => h) (Or.inl ⟨by rfl, ?_⟩) hHeld ?_
  rotate_left
  · intro W hSw
    (try dsimp only at hSw)
    go_simp
    (try with_reducible rfl)
  (try simp only [Act.put, List.setIfInBounds_toArray, List.set_cons_zero, List.set_cons_succ])
  refine wpAnyH_take (i := 2) (oi := { dst := some 22, op := Go.Op.move (Go.Operand.tmp 1), type := 3, pos := "proxy.go:30", after := #[], guard := none }) (v := ?_) rfl (by kernel_rfl) (by kernel_rfl) (by kernel_rfl) (fun _ _ _ h => h) (Or.inl ⟨by rfl, ?_⟩) hHeld ?_
  rotate_left
  · intro W hSw
    (try dsimp only at hSw)
    go_simp
    (try with_reducible rfl)
  (try simp only [Act.put, List.setIfInBounds_toArray, List.set_cons_zero, List.set_cons_succ])
  refine wpAnyH_take (i := 3) (oi := { dst := some 23, op := Go.Op.load 23 (Go.Operand.tmp 2), type := 23, pos := "proxy.go:30", after := #[], guard := none }) (v := ?_) rfl (by kernel_rfl) (by kernel_rfl) (by kernel_rfl) (fun _ _ _ h => h) (Or.inl ⟨by rfl, ?_⟩) hHeld ?_
  rotate_left
  · intro W hSw
    (try dsimp only at hSw)
    go_simp
    (try with_reducible rfl)
  (try simp only [Act.put, List.setIfInBounds_toArray, List.set_cons_zero, List.set_cons_succ])
  refine wpAnyH_take (i := 6) (oi := { dst := some 26, op := Go.Op.load 23 (Go.Operand.tmp 2), type := 23, pos := "proxy.go:30", after := #[], guard := none }) (v := ?_) rfl (by kernel_rfl) (by kernel_rfl) (by kernel_rfl) (fun _ _ _ h => h) (Or.inl ⟨by rfl, ?_⟩) hHeld ?_
  rotate_left
  · intro W hSw
    (try dsimp only at hSw)
    go_simp
    (try with_reducible rfl)
  (try simp only [Act.put, List.setIfInBounds_toArray, List.set_cons_zero, List.set_cons_succ])
  refine wpAnyH_ready (rs := [4]) (by kernel_rfl) (by simp) ?_
  refine AllReadyH.cons (o := { dst := some 24, op := Go.Op.call { callee := Go.Callee.value (Go.Operand.func 39), args := #[Go.Operand.tmp 23], argTypes := #[23] }, type := 104, pos := "proxy.go:30", after := #[{ on := 3, ground := Go.Ground.data }], guard := none }) rfl (fun K hK => ?_) AllReadyH.nil
  go_simp
  refine (C20.out _ _ A4.out).mono ?_; rintro e w4 ⟨p1, rfl, hw4⟩; have A5 := hid hw4; have q1 := hid (SG.out _ A5.out.tail); clear hw4
  refine hK.out _ _ q1.out (fun hHeld => ?_)
  clear hK K
  (try simp only [Act.put, List.setIfInBounds_toArray, List.set_cons_zero, List.set_cons_succ])
  refine wpAnyH_take (i := 5) (oi := { dst := some 25, op := Go.Op.build 107 #[(0, Go.Operand.tmp 24)], type := 107, pos := "proxy.go:30", after := #[{ on := 4, ground := Go.Ground.data }], guard := none }) (v := .agg (wt0 p1).cells.toArray) rfl (by kernel_rfl) (by kernel_rfl) (by kernel_rfl) (fun _ _ _ h => h) (yieldsIf_build (by rfl) 107 _ rfl (wt0 p1).cells.toArray (by kernel_rfl)) hHeld ?_
  (try simp only [Act.put, List.setIfInBounds_toArray, List.set_cons_zero, List.set_cons_succ])
  refine wpAnyH_ready (rs := [7]) (by kernel_rfl) (by simp) ?_
  refine AllReadyH.cons (o := { dst := some 27, op := Go.Op.call { callee := Go.Callee.value (Go.Operand.func 39), args := #[Go.Operand.tmp 26], argTypes := #[23] }, type := 104, pos := "proxy.go:30", after := #[{ on := 6, ground := Go.Ground.data }, { on := 4, ground := Go.Ground.chain }], guard := none }) rfl (fun K hK => ?_) AllReadyH.nil
  go_simp
  refine (C20.out _ _ A5.out).mono ?_; rintro e w5 ⟨p2, rfl, hw5⟩; have A6 := hid hw5; have q2 := hid (SG.out _ A6.out.tail.tail); clear hw5
  refine hK.out _ _ q2.out (fun hHeld => ?_)
  clear hK K
  (try simp only [Act.put, List.setIfInBounds_toArray, List.set_cons_zero, List.set_cons_succ])
  refine wpAnyH_take (i := 8) (oi := { dst := some 28, op := Go.Op.build 109 #[(0, Go.Operand.tmp 27)], type := 109, pos := "proxy.go:30", after := #[{ on := 7, ground := Go.Ground.data }], guard := none }) (v := .agg (quC p2).toArray) rfl (by kernel_rfl) (by kernel_rfl) (by kernel_rfl) (fun _ _ _ h => h) (yieldsIf_build (by rfl) 109 _ rfl (quC p2).toArray (by kernel_rfl)) hHeld ?_
  (try simp only [Act.put, List.setIfInBounds_toArray, List.set_cons_zero, List.set_cons_succ])
  refine wpAnyH_take (i := 9) (oi := { dst := some 29, op := Go.Op.build 111 #[(0, Go.Operand.tmp 21), (1, Go.Operand.tmp 22), (4, Go.Operand.tmp 25), (5, Go.Operand.tmp 28)], type := 111, pos := "proxy.go:30", after := #[{ on := 1, ground := Go.Ground.data }, { on := 2, ground := Go.Ground.data }, { on := 5, ground := Go.Ground.data }, { on := 8, ground := Go.Ground.data }], guard := none }) (v := .agg (px0 a0 id p1 p2).cells.toArray) rfl (by kernel_rfl) (by kernel_rfl) (by kernel_rfl) (fun _ _ _ h => h) (yieldsIf_build (by rfl) 111 _ rfl (px0 a0 id p1 p2).cells.toArray (by kernel_rfl)) hHeld ?_
  (try simp only [Act.put, List.setIfInBounds_toArray, List.set_cons_zero, List.set_cons_succ])
  refine wpAnyH_ready (rs := [10]) (by kernel_rfl) (by simp) ?_
  refine AllReadyH.cons (o := { dst := some 30, op := Go.Op.box 111 (Go.Operand.tmp 29), type := 70, pos := "proxy.go:30", after := #[{ on := 9, ground := Go.Ground.data }], guard := none }) rfl (fun K hK => ?_) AllReadyH.nil
  go_simp
  have A7 := hid (A6.out.addBlk (px0 a0 id p1 p2).cells 111); have q3 := hid (SG.out _ A7.out.tail.tail.tail)
  refine hK.out _ _ q3.out (fun hHeld => ?_)
  clear hK K
  (try simp only [Act.put, List.setIfInBounds_toArray, List.set_cons_zero, List.set_cons_succ])
  refine wpAnyH_take (i := 11) (oi := { dst := some 4, op := Go.Op.assign (Go.Operand.tmp 30), type := 70, pos := "proxy.go:30", after := #[{ on := 10, ground := Go.Ground.data }, { on := 7, ground := Go.Ground.chain }, { on := 0, ground := Go.Ground.phase }, { on := 1, ground := Go.Ground.phase }, { on := 2, ground := Go.Ground.phase }, { on := 3, ground := Go.Ground.phase }, { on := 4, ground := Go.Ground.phase }, { on := 5, ground := Go.Ground.phase }, { on := 6, ground := Go.Ground.phase }, { on := 7, ground := Go.Ground.phase }, { on := 8, ground := Go.Ground.phase }, { on := 9, ground := Go.Ground.phase }, { on := 10, ground := Go.Ground.phase }], guard := none }) (v := ?_) rfl (by kernel_rfl) (by kernel_rfl) (by kernel_rfl) (fun _ _ _ h => h) (Or.inl ⟨by rfl, ?_⟩) hHeld ?_
  rotate_left
  · intro W hSw
    (try dsimp only at hSw)
    go_simp
    (try with_reducible rfl)
  (try simp only [Act.put, List.setIfInBounds_toArray, List.set_cons_zero, List.set_cons_succ])
  refine wpAnyH_take (i := 12) (oi := { dst := some 5, op := Go.Op.assign (Go.Operand.const (Go.Value.int Go.IntKind.i64 0)), type := 35, pos := "proxy.go:30", after := #[{ on := 11, ground := Go.Ground.chain }, { on := 0, ground := Go.Ground.phase }, { on := 1, ground := Go.Ground.phase }, { on := 2, ground := Go.Ground.phase }, { on := 3, ground := Go.Ground.phase }, { on := 4, ground := Go.Ground.phase }, { on := 5, ground := Go.Ground.phase }, { on := 6, ground := Go.Ground.phase }, { on := 7, ground := Go.Ground.phase }, { on := 8, ground := Go.Ground.phase }, { on := 9, ground := Go.Ground.phase }, { on := 10, ground := Go.Ground.phase }, { on := 11, ground := Go.Ground.phase }], guard := none }) (v := ?_) rfl (by kernel_rfl) (by kernel_rfl) (by kernel_rfl) (fun _ _ _ h => h) (Or.inl ⟨by rfl, ?_⟩) hHeld ?_
  rotate_left
  · intro W hSw
    (try dsimp only at hSw)
    go_simp
    (try with_reducible rfl)
  (try simp only [Act.put, List.setIfInBounds_toArray, List.set_cons_zero, List.set_cons_succ])
  refine wpAnyH_done (by kernel_rfl) ?_ _
  clear hHeld
  clear p0 q1 q2 q3 SG C20 c1
  obtain ⟨P, hP⟩ : ∃ P, Hid (P = w5.heap.size) := ⟨_, hid rfl⟩
  rw [← hP.out] at A7
  simp only [← hP.out]
  have A8 : Hid (All (pxL P (px0 a0 id p1 p2) a6 a5 a6 a6 ++ cs) (w5.alloc (.cells (px0 a0 id p1 p2).cells.toArray 111))) := hid (by
    have h1 := A7.out.perm (List.Perm.cons _ (List.Perm.swap _ _ _))
    exact (h1.perm (List.perm_middle (a := blkC H [.int .i64 a0, .int .i64 a1, .int .i64 a2, .int .i64 a3, .int .i64 a4, .int .i64 a5, .int .i64 a6, .int .i64 a7, .int .i64 a8, .int .i64 a9] 23) (l₁ := [blkC P (px0 a0 id p1 p2).cells 111, boC p1 a6 a5 a6, boC p2 a6 a5 a6]))).tail)
  generalize w5.alloc (.cells (px0 a0 id p1 p2).cells.toArray 111) = w6 at A8 ⊢
  go_wp2
  go_ret2
  first | exact ⟨P, p1, p2, rfl, A8.out⟩ | exact ⟨P, p1, rfl, p2, A8.out⟩
end Go.Proofs.YtdhkdniddjnigaaGreatDoor

namespace Go.Proofs.YtdhkdniddjnigaaGreatDoor
open Go.RowKit
set_option linter.unusedVariables false
theorem wp_append_run {P : Program} {w : World} {o : Oper} {a : Act} {K : Act → World → Prop} {Q : Exit → Act → World → Prop} (s x : Operand) (t : TypeId)
    (ho : o.op = .call { callee := .builtin .append, args := #[s, x], argTypes := #[t, t] }) (v1 v2 v' : Value) (w' : World) (hs : a.eval s = v1) (hx : a.eval x = v2)
    (hr : (Builtin.append_ #[t, t] o.type #[v1, v2]).run P w = .ok v' w') (h : K (a.put o.dst v') w') : o.wp P a w K Q := by
  unfold Oper.wp execOp
  simp only [ho, resolve, invoke, builtin, Sem.run_bind, Sem.run_pure, Result.andThen_ok, List.map_toArray, List.map_cons, List.map_nil, hs, hx, hr]
  exact h
theorem Ms.len (m : Ms) : m.cells.length = 23 := rfl
theorem Ms.one (m : Ms) : ∀ u ∈ m.cells, u.oneCell' = true := by
  intro u hu
  have := one41 m
  rw [Array.all_eq_true'] at this
  exact this u (by simpa using hu)
/-- A row of messages. -/
abbrev msC (v : Value) (l : List Ms) : Comp := rowC 51 23 v l.length (l.flatMap Ms.cells)
/-- One message more. -/
theorem appM {W : World} {v : Value} {l : List Ms} {x : Ms} {H : Nat} {cs : List Comp} (A : All (msC v l :: blkC H x.cells 51 :: cs) W) (hb : (l.length + 1) * 264 ≤ 140737488355328) :
    ∃ ao cap w', (Builtin.append_ #[59, 59] 59 #[v, .slice (some ⟨H, 0, none⟩) 1 1]).run Tryz.prog W = .ok (.slice ao (l.length + 1) cap) w' ∧ All (msC (.slice ao (l.length + 1) cap) (l ++ [x]) :: blkC H x.cells 51 :: cs) w' := by
  obtain ⟨i1, hi1, hz0, hz1, hz2⟩ := info_parts Tryz.inf41
  have hH : W.heap[H]? = some (.cells x.cells.toArray 51 (0, 0)) := A.tail.1.2.1
  have := appN (c := 1) und49 hi1 hz0 hz1 hz2 rfl (by decide) A (some ⟨H, 0, none⟩) (news := x.cells) (m := 1) rfl (fun _ => ⟨_, rfl, fun j u hu => by rw [Addr.add_lit, Nat.zero_add, cell_at hH]; simpa using hu⟩) x.one (by unfold maxLen; omega) hb
  have e : (l ++ [x]).flatMap Ms.cells = l.flatMap Ms.cells ++ x.cells := by simp
  unfold msC
  rw [e, List.length_append]
  exact this
end Go.Proofs.YtdhkdniddjnigaaGreatDoor

namespace Go.Proofs.YtdhkdniddjnigaaGreatDoor
open Go.RowKit
set_option linter.unusedVariables false

set_option maxHeartbeats 800000 in
set_option maxRecDepth 1000000 in
theorem next34 {P : Nat} {x : Px} {b m n1 n2 : Int} {cs : List Comp} {w : World} (h : All (pxL P x b m n1 n2 ++ cs) w) (n : Int) (hn : 1 ≤ n) (hw : 0 ≤ x.who) (hw2 : x.who ≤ 7) (ha : 0 ≤ x.again) (ha2 : x.again ≤ 4611686018427387904) : Calls Tryz.prog 80 #[.pointer (some ⟨P, 13, none⟩), .int .i64 n] w fun e w' => e = .returned (.int .i64 ((x.who + x.again).tmod n)) ∧ All (pxL P { x with again := x.again + 1 } b m n1 n2 ++ cs) w' := by
  have c22 : w.cell? ⟨P, 22, none⟩ = some (.int .i64 x.who) := by rw [cell_at h.px]; rfl
  have c24 : w.cell? ⟨P, 24, none⟩ = some (.int .i64 x.again) := by rw [cell_at h.px]; rfl
  have f1 := free_at h.px 24
  have A := hid (h.setBlk 24 (.int .i64 (x.again + 1)))
  have d22 : Hid ((w.setCell ⟨P, 24, none⟩ (.int .i64 (x.again + 1))).cell? ⟨P, 22, none⟩ = some (.int .i64 x.who)) := hid (by rw [cell_at A.out.1.2.1]; rfl)
  have d24 : Hid ((w.setCell ⟨P, 24, none⟩ (.int .i64 (x.again + 1))).cell? ⟨P, 24, none⟩ = some (.int .i64 (x.again + 1))) := hid (by rw [cell_at A.out.1.2.1]; rfl)
  have e1 : IntKind.i64.wrap (x.again + 1) = x.again + 1 := by rw [IntKind.wrap_i64]; omega
  have e2 : IntKind.i64.wrap (x.who + (x.again + 1)) = x.who + (x.again + 1) := by rw [IntKind.wrap_i64]; omega
  have e3 : IntKind.i64.wrap (x.who + (x.again + 1) - 1) = x.who + x.again := by rw [IntKind.wrap_i64]; omega
  have n0 : n ≠ 0 := by omega
  have n1 : n ≠ -1 := by omega
  clear h hn hw hw2 ha ha2
  go_enter Tryz.func80, Tryz.ntmps80
  go_upto_region 2 with fail
  generalize w.setCell ⟨P, 24, none⟩ (.int .i64 (x.again + 1)) = w1 at A d22 d24 ⊢
  clear c22 c24 f1
  have d22 := d22.out
  have d24 := d24.out
  go_region
  go_wp2
  go_ret
  exact ⟨rfl, A.out.drew⟩
end Go.Proofs.YtdhkdniddjnigaaGreatDoor

namespace Go.Proofs.YtdhkdniddjnigaaGreatDoor
open Go.RowKit
set_option linter.unusedVariables false

def Wt.due (t : Wt) : Bool := t.wts && decide (t.left = 1)
def Wt.tick (t : Wt) (n : Int) : Wt := if t.wts then (if t.left = 1 then { t with left := n } else { t with left := t.left - 1 }) else t
def Wt.now (t : Wt) (n m : Int) : Int := if t.due then min (2 * n) m else n
/-- Ticks that are left are in bounds. -/
def Wt.okL (t : Wt) : Prop := t.wts = true → 1 ≤ t.left ∧ t.left ≤ 1024

theorem tick33R {P : Nat} {x : Px} {b m n1 n2 : Int} {cs : List Comp} {w : World} (h : All (pxL P x b m n1 n2 ++ cs) w) (hl : x.rq.okL) (h1 : 1 ≤ n1) (h2 : n1 ≤ m) (h3 : m ≤ 1024) : Calls Tryz.prog 77 #[.pointer (some ⟨P, 4, none⟩)] w fun e w' => e = .returned (.bool x.rq.due) ∧ All (pxL P { x with rq := x.rq.tick n1 } b m (x.rq.now n1 m) n2 ++ cs) w' := by
  by_cases hw : x.rq.wts = true
  · by_cases hl1 : x.rq.left = 1
    · have ed : x.rq.due = true := by simp [Wt.due, hw, hl1]
      have en : x.rq.now n1 m = min (2 * n1) m := by simp [Wt.now, ed]
      have et : x.rq.tick n1 = { x.rq with left := n1 } := by simp [Wt.tick, hw, hl1]
      rw [ed, en, et]
      exact tickR_yes h hw hl1 h1 h2 h3
    · have hb := hl hw
      have ed : x.rq.due = false := by simp [Wt.due, hl1]
      have en : x.rq.now n1 m = n1 := by simp [Wt.now, ed]
      have et : x.rq.tick n1 = { x.rq with left := x.rq.left - 1 } := by simp [Wt.tick, hw, hl1]
      rw [ed, en, et]
      exact tickR_less h hw (by omega) hb.2
  · have hw : x.rq.wts = false := by simpa using hw
    have ed : x.rq.due = false := by simp [Wt.due, hw]
    have en : x.rq.now n1 m = n1 := by simp [Wt.now, ed]
    have et : x.rq.tick n1 = x.rq := by simp [Wt.tick, hw]
    rw [ed, en, et]
    refine (tickR_no h hw).mono ?_
    rintro e w' ⟨h1, rfl⟩
    exact ⟨h1, h⟩

theorem tick33Q {P : Nat} {x : Px} {b m n1 n2 : Int} {cs : List Comp} {w : World} (h : All (pxL P x b m n1 n2 ++ cs) w) (hl : x.qu.okL) (h1 : 1 ≤ n2) (h2 : n2 ≤ m) (h3 : m ≤ 1024) : Calls Tryz.prog 77 #[.pointer (some ⟨P, 13, none⟩)] w fun e w' => e = .returned (.bool x.qu.due) ∧ All (pxL P { x with qu := x.qu.tick n2 } b m n1 (x.qu.now n2 m) ++ cs) w' := by
  by_cases hw : x.qu.wts = true
  · by_cases hl1 : x.qu.left = 1
    · have ed : x.qu.due = true := by simp [Wt.due, hw, hl1]
      have en : x.qu.now n2 m = min (2 * n2) m := by simp [Wt.now, ed]
      have et : x.qu.tick n2 = { x.qu with left := n2 } := by simp [Wt.tick, hw, hl1]
      rw [ed, en, et]
      exact tickQ_yes h hw hl1 h1 h2 h3
    · have hb := hl hw
      have ed : x.qu.due = false := by simp [Wt.due, hl1]
      have en : x.qu.now n2 m = n2 := by simp [Wt.now, ed]
      have et : x.qu.tick n2 = { x.qu with left := x.qu.left - 1 } := by simp [Wt.tick, hw, hl1]
      rw [ed, en, et]
      exact tickQ_less h hw (by omega) hb.2
  · have hw : x.qu.wts = false := by simpa using hw
    have ed : x.qu.due = false := by simp [Wt.due, hw]
    have en : x.qu.now n2 m = n2 := by simp [Wt.now, ed]
    have et : x.qu.tick n2 = x.qu := by simp [Wt.tick, hw]
    rw [ed, en, et]
    refine (tickQ_no h hw).mono ?_
    rintro e w' ⟨h1, rfl⟩
    exact ⟨h1, h⟩

/-- The requests that are said again. -/
def again (x : Px) (k : Nat) : List Ms := (List.range k).map fun i : Nat => rqM x.id i x.rq
theorem again_len (x : Px) (k : Nat) : (again x k).length = k := by simp [again]
theorem again_succ (x : Px) (k : Nat) : again x (k + 1) = again x k ++ [rqM x.id k x.rq] := by simp [again, List.range_succ]
def sayR (x : Px) (N : Nat) : List Ms := if x.rq.due then again x N else []
def sayQ (x : Px) : List Ms := if x.qu.due then [asM x.id ((x.who + x.again).tmod x.n) x.least x.qu] else []
def Px.tick (x : Px) (n1 n2 : Int) : Px := { x with rq := x.rq.tick n1, qu := x.qu.tick n2, again := if x.qu.due then x.again + 1 else x.again }
theorem rqM_tick (f t n : Int) (x : Wt) : rqM f t (x.tick n) = rqM f t x := by
  unfold Wt.tick
  split
  · split <;> rfl
  · rfl
theorem asM_tick (f t l n : Int) (x : Wt) : asM f t l (x.tick n) = asM f t l x := by
  unfold Wt.tick
  split
  · split <;> rfl
  · rfl
end Go.Proofs.YtdhkdniddjnigaaGreatDoor

namespace Go.Proofs.YtdhkdniddjnigaaGreatDoor
open Go.RowKit
set_option linter.unusedVariables false

theorem px_there {W : World} {P : Nat} {x : Px} (h : W.heap[P]? = some (.cells x.cells.toArray 111 (0, 0))) (o n : Nat) (hn : o + n ≤ 25) : W.there P o n := by
  intro j hj
  refine ⟨?_, free_at h _⟩
  have hl : x.cells.toArray.size = 25 := rfl
  rw [cell_at h, Array.getElem?_eq_getElem (by omega)]
  rfl
def Wt.ended (t : Wt) : Wt := { t with wts := false, ok := 0, onm := ⟨#[]⟩, otx := ⟨#[]⟩, on := 0, om := 0, left := 0 }
set_option maxHeartbeats 1600000 in
set_option maxRecDepth 1000000 in
theorem endR {P : Nat} {x : Px} {b m n1 n2 : Int} {cs : List Comp} {w : World} (h : All (pxL P x b m n1 n2 ++ cs) w) : Calls Tryz.prog 95 #[.pointer (some ⟨P, 4, none⟩)] w fun e w' => e = .returned (.tuple #[]) ∧ All (pxL P { x with rq := x.rq.ended } b m b n2 ++ cs) w' := by
  have c12 : w.cell? ⟨P, 12, none⟩ = some (.pointer (some ⟨x.rq.pb, 0, none⟩)) := by rw [cell_at h.px]; rfl
  have C := hid (reset84 h.swap)
  clear h
  go_enter Tryz.func95, Tryz.ntmps95
  go_wp2_with fail
  refine C.out.mono ?_
  rintro e w1 ⟨rfl, hw1⟩
  have A1 := hid hw1.swap
  clear hw1 C c12
  go_upto_region 1 with fail
  have A2 := hid A1.out.drew
  have p0 : Hid ((fun W => W.cell? ⟨P, 4, none⟩ = some (.int .i64 x.rq.num) ∧ W.cell? ⟨P, 12, none⟩ = some (.pointer (some ⟨x.rq.pb, 0, none⟩))) w1.drew) := hid ⟨by rw [cell_at A2.out.1.2.1]; rfl, by rw [cell_at A2.out.1.2.1]; rfl⟩
  have A3 : Hid (All (pxL P { x with rq := x.rq.ended } b m b n2 ++ cs) (w1.drew.setCells P 4 ([.int .i64 x.rq.num, .bool false, .int .i64 0, .string ⟨#[]⟩, .string ⟨#[]⟩, .int .i64 0, .int .i64 0, .int .i64 0, .pointer (some ⟨x.rq.pb, 0, none⟩)] : List Value).toArray.toList)) := hid (((((((((A2.out.setBlk 4 (.int .i64 x.rq.num)).setBlk 5 (.bool false)).setBlk 6 (.int .i64 0)).setBlk 7 (.string ⟨#[]⟩)).setBlk 8 (.string ⟨#[]⟩)).setBlk 9 (.int .i64 0)).setBlk 10 (.int .i64 0)).setBlk 11 (.int .i64 0)).setBlk 12 (.pointer (some ⟨x.rq.pb, 0, none⟩)))
  have p1 : Hid ((fun W => W.cell? ⟨P, 4, none⟩ = some (.int .i64 x.rq.num) ∧ W.cell? ⟨P, 12, none⟩ = some (.pointer (some ⟨x.rq.pb, 0, none⟩))) (w1.drew.setCells P 4 ([.int .i64 x.rq.num, .bool false, .int .i64 0, .string ⟨#[]⟩, .string ⟨#[]⟩, .int .i64 0, .int .i64 0, .int .i64 0, .pointer (some ⟨x.rq.pb, 0, none⟩)] : List Value).toArray.toList)) := hid ⟨by rw [cell_at A3.out.1.2.1]; rfl, by rw [cell_at A3.out.1.2.1]; rfl⟩
  have TH : Hid (w1.drew.there P 4 (([.int .i64 x.rq.num, .bool false, .int .i64 0, .string ⟨#[]⟩, .string ⟨#[]⟩, .int .i64 0, .int .i64 0, .int .i64 0, .pointer (some ⟨x.rq.pb, 0, none⟩)] : List Value).toArray.size)) := hid (px_there A2.out.1.2.1 4 9 (by omega))
  have I67 : Hid ((Tryz.prog.info? 104).map (·.size) = some (([.int .i64 x.rq.num, .bool false, .int .i64 0, .string ⟨#[]⟩, .string ⟨#[]⟩, .int .i64 0, .int .i64 0, .int .i64 0, .pointer (some ⟨x.rq.pb, 0, none⟩)] : List Value).toArray.size)) := hid info67
  have O67 : Hid ((([.int .i64 x.rq.num, .bool false, .int .i64 0, .string ⟨#[]⟩, .string ⟨#[]⟩, .int .i64 0, .int .i64 0, .int .i64 0, .pointer (some ⟨x.rq.pb, 0, none⟩)] : List Value).toArray).all (·.oneCell') = true) := hid (by simp [Value.oneCell'])
  refine wp_region_held_drew (S := (fun W => W.cell? ⟨P, 4, none⟩ = some (.int .i64 x.rq.num) ∧ W.cell? ⟨P, 12, none⟩ = some (.pointer (some ⟨x.rq.pb, 0, none⟩)))) (by kernel_rfl) p0.out (fun hHeld => ?_)
  refine wpAnyH_take (i := 0) (oi := { dst := some 7, op := Go.Op.move (Go.Operand.tmp 0), type := 165, pos := "waiting.go:50", after := #[], guard := none }) (v := ?_) rfl (by kernel_rfl) (by kernel_rfl) (by kernel_rfl) (fun _ _ _ h => h) (Or.inl ⟨by rfl, ?_⟩) hHeld ?_
  rotate_left
  · intro W hSw
    (try dsimp only at hSw)
    go_simp
    (try with_reducible rfl)
  (try simp only [Act.put, List.setIfInBounds_toArray, List.set_cons_zero, List.set_cons_succ])
  refine wpAnyH_take (i := 1) (oi := { dst := some 8, op := Go.Op.move (Go.Operand.tmp 0), type := 165, pos := "waiting.go:50", after := #[], guard := none }) (v := ?_) rfl (by kernel_rfl) (by kernel_rfl) (by kernel_rfl) (fun _ _ _ h => h) (Or.inl ⟨by rfl, ?_⟩) hHeld ?_
  rotate_left
  · intro W hSw
    (try dsimp only at hSw)
    go_simp
    (try with_reducible rfl)
  (try simp only [Act.put, List.setIfInBounds_toArray, List.set_cons_zero, List.set_cons_succ])
  refine wpAnyH_take (i := 2) (oi := { dst := some 9, op := Go.Op.nilCheck (Go.Operand.tmp 8), type := 0, pos := "waiting.go:50", after := #[{ on := 1, ground := Go.Ground.data }], guard := none }) (v := ?_) rfl (by kernel_rfl) (by kernel_rfl) (by kernel_rfl) (fun _ _ _ h => h) (Or.inl ⟨by rfl, ?_⟩) hHeld ?_
  rotate_left
  · intro W hSw
    (try dsimp only at hSw)
    go_simp
    (try with_reducible rfl)
  (try simp only [Act.put, List.setIfInBounds_toArray, List.set_cons_zero, List.set_cons_succ])
  refine wpAnyH_take (i := 3) (oi := { dst := some 10, op := Go.Op.fieldAddr 104 (Go.Operand.tmp 9) 0, type := 0, pos := "waiting.go:50", after := #[{ on := 2, ground := Go.Ground.data }], guard := none }) (v := ?_) rfl (by kernel_rfl) (by kernel_rfl) (by kernel_rfl) (fun _ _ _ h => h) (Or.inl ⟨by rfl, ?_⟩) hHeld ?_
  rotate_left
  · intro W hSw
    (try dsimp only at hSw)
    go_simp
    (try with_reducible rfl)
  (try simp only [Act.put, List.setIfInBounds_toArray, List.set_cons_zero, List.set_cons_succ])
  refine wpAnyH_take (i := 4) (oi := { dst := some 11, op := Go.Op.load 3 (Go.Operand.tmp 10), type := 3, pos := "waiting.go:50", after := #[{ on := 3, ground := Go.Ground.data }], guard := none }) (v := ?_) rfl (by kernel_rfl) (by kernel_rfl) (by kernel_rfl) (fun _ _ _ h => h) (Or.inl ⟨by rfl, ?_⟩) hHeld ?_
  rotate_left
  · intro W hSw
    (try dsimp only at hSw)
    go_simp
    (try with_reducible rfl)
  (try simp only [Act.put, List.setIfInBounds_toArray, List.set_cons_zero, List.set_cons_succ])
  refine wpAnyH_take (i := 5) (oi := { dst := some 12, op := Go.Op.move (Go.Operand.tmp 0), type := 165, pos := "waiting.go:50", after := #[], guard := none }) (v := ?_) rfl (by kernel_rfl) (by kernel_rfl) (by kernel_rfl) (fun _ _ _ h => h) (Or.inl ⟨by rfl, ?_⟩) hHeld ?_
  rotate_left
  · intro W hSw
    (try dsimp only at hSw)
    go_simp
    (try with_reducible rfl)
  (try simp only [Act.put, List.setIfInBounds_toArray, List.set_cons_zero, List.set_cons_succ])
  refine wpAnyH_take (i := 6) (oi := { dst := some 13, op := Go.Op.nilCheck (Go.Operand.tmp 12), type := 0, pos := "waiting.go:50", after := #[{ on := 5, ground := Go.Ground.data }], guard := none }) (v := ?_) rfl (by kernel_rfl) (by kernel_rfl) (by kernel_rfl) (fun _ _ _ h => h) (Or.inl ⟨by rfl, ?_⟩) hHeld ?_
  rotate_left
  · intro W hSw
    (try dsimp only at hSw)
    go_simp
    (try with_reducible rfl)
  (try simp only [Act.put, List.setIfInBounds_toArray, List.set_cons_zero, List.set_cons_succ])
  refine wpAnyH_take (i := 7) (oi := { dst := some 14, op := Go.Op.fieldAddr 104 (Go.Operand.tmp 13) 4, type := 0, pos := "waiting.go:50", after := #[{ on := 6, ground := Go.Ground.data }], guard := none }) (v := ?_) rfl (by kernel_rfl) (by kernel_rfl) (by kernel_rfl) (fun _ _ _ h => h) (Or.inl ⟨by rfl, ?_⟩) hHeld ?_
  rotate_left
  · intro W hSw
    (try dsimp only at hSw)
    go_simp
    (try with_reducible rfl)
  (try simp only [Act.put, List.setIfInBounds_toArray, List.set_cons_zero, List.set_cons_succ])
  refine wpAnyH_take (i := 8) (oi := { dst := some 15, op := Go.Op.load 102 (Go.Operand.tmp 14), type := 102, pos := "waiting.go:50", after := #[{ on := 7, ground := Go.Ground.data }], guard := none }) (v := ?_) rfl (by kernel_rfl) (by kernel_rfl) (by kernel_rfl) (fun _ _ _ h => h) (Or.inl ⟨by rfl, ?_⟩) hHeld ?_
  rotate_left
  · intro W hSw
    (try dsimp only at hSw)
    go_simp
    (try with_reducible rfl)
  (try simp only [Act.put, List.setIfInBounds_toArray, List.set_cons_zero, List.set_cons_succ])
  refine wpAnyH_take (i := 9) (oi := { dst := some 16, op := Go.Op.build 104 #[(0, Go.Operand.tmp 11), (4, Go.Operand.tmp 15)], type := 104, pos := "waiting.go:50", after := #[{ on := 4, ground := Go.Ground.data }, { on := 8, ground := Go.Ground.data }], guard := none }) (v := .agg ([.int .i64 x.rq.num, .bool false, .int .i64 0, .string ⟨#[]⟩, .string ⟨#[]⟩, .int .i64 0, .int .i64 0, .int .i64 0, .pointer (some ⟨x.rq.pb, 0, none⟩)] : List Value).toArray) rfl (by kernel_rfl) (by kernel_rfl) (by kernel_rfl) (fun _ _ _ h => h) (yieldsIf_build (by rfl) 104 _ rfl ([.int .i64 x.rq.num, .bool false, .int .i64 0, .string ⟨#[]⟩, .string ⟨#[]⟩, .int .i64 0, .int .i64 0, .int .i64 0, .pointer (some ⟨x.rq.pb, 0, none⟩)] : List Value).toArray (by kernel_rfl)) hHeld ?_
  (try simp only [Act.put, List.setIfInBounds_toArray, List.set_cons_zero, List.set_cons_succ])
  refine wpAnyH_take (i := 10) (oi := { dst := some 17, op := Go.Op.nilCheck (Go.Operand.tmp 7), type := 0, pos := "waiting.go:50", after := #[{ on := 0, ground := Go.Ground.data }, { on := 0, ground := Go.Ground.phase }, { on := 1, ground := Go.Ground.phase }, { on := 2, ground := Go.Ground.phase }, { on := 3, ground := Go.Ground.phase }, { on := 4, ground := Go.Ground.phase }, { on := 5, ground := Go.Ground.phase }, { on := 6, ground := Go.Ground.phase }, { on := 7, ground := Go.Ground.phase }, { on := 8, ground := Go.Ground.phase }, { on := 9, ground := Go.Ground.phase }], guard := none }) (v := ?_) rfl (by kernel_rfl) (by kernel_rfl) (by kernel_rfl) (fun _ _ _ h => h) (Or.inl ⟨by rfl, ?_⟩) hHeld ?_
  rotate_left
  · intro W hSw
    (try dsimp only at hSw)
    go_simp
    (try with_reducible rfl)
  (try simp only [Act.put, List.setIfInBounds_toArray, List.set_cons_zero, List.set_cons_succ])
  refine wpAnyH_ready (rs := [11]) (by kernel_rfl) (by simp) ?_
  refine AllReadyH.cons (o := { dst := none, op := Go.Op.store 104 (Go.Operand.tmp 17) (Go.Operand.tmp 16), type := 0, pos := "waiting.go:50", after := #[{ on := 10, ground := Go.Ground.data }, { on := 9, ground := Go.Ground.data }, { on := 0, ground := Go.Ground.phase }, { on := 1, ground := Go.Ground.phase }, { on := 2, ground := Go.Ground.phase }, { on := 3, ground := Go.Ground.phase }, { on := 4, ground := Go.Ground.phase }, { on := 5, ground := Go.Ground.phase }, { on := 6, ground := Go.Ground.phase }, { on := 7, ground := Go.Ground.phase }, { on := 8, ground := Go.Ground.phase }, { on := 9, ground := Go.Ground.phase }], guard := none }) rfl (fun K hK => ?_) AllReadyH.nil
  rw [if_pos (by rfl)]
  refine wp_store_mid 104 _ _ rfl P 4 ([.int .i64 x.rq.num, .bool false, .int .i64 0, .string ⟨#[]⟩, .string ⟨#[]⟩, .int .i64 0, .int .i64 0, .int .i64 0, .pointer (some ⟨x.rq.pb, 0, none⟩)] : List Value).toArray rfl rfl TH.out I67.out O67.out ?_
  refine hK.out _ _ p1.out (fun hHeld => ?_)
  clear hK K
  (try simp only [Act.put])
  refine wpAnyH_done (by kernel_rfl) ?_ _
  clear hHeld
  clear p0 p1 TH I67 O67
  generalize w1.drew.setCells P 4 ([.int .i64 x.rq.num, .bool false, .int .i64 0, .string ⟨#[]⟩, .string ⟨#[]⟩, .int .i64 0, .int .i64 0, .int .i64 0, .pointer (some ⟨x.rq.pb, 0, none⟩)] : List Value).toArray.toList = w2 at A3 ⊢
  go_wp2
  go_end0
  exact ⟨rfl, A3.out⟩

theorem info48 : (Tryz.prog.info? 97).map (·.size) = some 7 := by kernel_rfl
abbrev zR : Value := .agg #[.int .i64 0, .int .i64 0, .slice none 0 0]
set_option maxRecDepth 1000000 in
theorem clone_nil {w : World} : Calls Tryz.prog 130 #[.slice none 0 0] w fun e w' => e = .returned (.slice none 0 0) ∧ w' = w := by
  have he := fun w => Lib.run_eql_slice_nil (P := Tryz.prog) w 43 9 none 0 0 0 0 Tryz.underlying43
  go_enter Tryz.func130, Tryz.ntmps130
  go_wp2
  go_ret
  exact ⟨rfl, rfl⟩
set_option maxRecDepth 1000000 in
theorem copied_nil {w : World} : Calls Tryz.prog 96 #[zR] w fun e w' => e = .returned zR ∧ Below w.heap.size w w' := by
  have C : Hid (∀ W : World, Calls Tryz.prog 130 #[.slice none 0 0] W fun e w' => e = .returned (.slice none 0 0) ∧ w' = W) := hid (fun W => clone_nil)
  go_enter Tryz.func96, Tryz.ntmps96
  go_wp2_with (go_at_call 130; refine (C.out _).mono ?_; rintro e w' ⟨rfl, rfl⟩)
  refine bodyPost_ret (v := zR) (by simp only [results, Tryz.f96]; go_simp) rfl ?_
  exact ⟨rfl, b2' (ba _ _) (ba _ _)⟩

end Go.Proofs.YtdhkdniddjnigaaGreatDoor

namespace Go.Proofs.YtdhkdniddjnigaaGreatDoor
open Go.RowKit
set_option linter.unusedVariables false

def Px.reply (x : Px) (m : Ms) : Px := { x with rq := x.rq.ended, view := max x.view m.v, seen := max x.seen m.n }

end Go.Proofs.YtdhkdniddjnigaaGreatDoor

namespace Go.Proofs.YtdhkdniddjnigaaGreatDoor
open Go.RowKit
set_option linter.unusedVariables false

theorem res15 {tmps : Array Value} {w : World} {b : Nat} {C : Array Value} {e : Value} (ht : tmps.getD 4 undef = .pointer (some ⟨b, 0, none⟩)) (h5 : tmps.getD 5 undef = e) (h : w.heap[b]? = some (.cells C 97 (0, 0))) (hi : (Tryz.prog.info? 97).map (·.size) = some C.size) : (results Tryz.f36 tmps).run Tryz.prog w = .ok (.tuple #[.agg C, e]) w := by
  have hp' : tmps[4]?.getD undef = .pointer (some ⟨b, 0, none⟩) := by simpa using ht
  have hp5 : tmps[5]?.getD undef = e := by simpa using h5
  have hres : Tryz.f36.results = #[.cell 4 97, .tmp 5] := rfl
  simp [results, hp', hp5, asAddr, run_loadVar_row w b 97 97 C (0, 0) _ h Tryz.underlying97 rfl hi]
end Go.Proofs.YtdhkdniddjnigaaGreatDoor

namespace Go.Proofs.YtdhkdniddjnigaaGreatDoor
open Go.RowKit
set_option linter.unusedVariables false

set_option maxHeartbeats 3200000 in
set_option maxRecDepth 1000000 in
theorem tick_nn {P : Nat} {x : Px} {b m n1 n2 : Int} {cs : List Comp} {w : World} (h : All (pxL P x b m n1 n2 ++ cs) w) (hr : x.rq.okL) (hq : x.qu.okL) (h1 : 1 ≤ n1) (h2 : n1 ≤ m) (h3 : m ≤ 1024) (g1 : 1 ≤ n2) (g2 : n2 ≤ m) (N : Nat) (hN : x.n = (N : Int)) (hN7 : 1 ≤ N ∧ N ≤ 7) (hw : 0 ≤ x.who) (hw2 : x.who ≤ 7) (ha : 0 ≤ x.again) (ha2 : x.again ≤ 4611686018427387904) (dr : x.rq.due = false) (dq : x.qu.due = false) :
    Calls Tryz.prog 48 #[.pointer (some ⟨P, 0, none⟩)] w fun e w' => ∃ v, e = .returned v ∧ All (msC v (([] : List Ms)) :: (pxL P { x with rq := x.rq.tick n1, qu := x.qu.tick n2 } b m (x.rq.now n1 m) (x.qu.now n2 m) ++ cs)) w' := by
  have T33R : Hid (Calls Tryz.prog 77 #[.pointer (some ⟨P, 4, none⟩)] w fun e w' => e = .returned (.bool false) ∧ All (pxL P { x with rq := x.rq.tick n1 } b m (x.rq.now n1 m) n2 ++ cs) w') := hid (by have := tick33R h hr h1 h2 h3; rw [dr] at this; exact this)
  have T33Q : Hid (∀ W c, All (c :: (pxL P { x with rq := x.rq.tick n1 } b m (x.rq.now n1 m) n2 ++ cs)) W → Calls Tryz.prog 77 #[.pointer (some ⟨P, 13, none⟩)] W fun e w' => e = .returned (.bool false) ∧ All (c :: (pxL P { x with rq := x.rq.tick n1, qu := x.qu.tick n2 } b m (x.rq.now n1 m) (x.qu.now n2 m) ++ cs)) w') := hid (fun W c hW => by
    have := tick33Q (x := { x with rq := x.rq.tick n1 }) (cs := c :: cs) (hW.perm (List.perm_middle (l₁ := pxL P { x with rq := x.rq.tick n1 } b m (x.rq.now n1 m) n2)).symm) hq g1 g2 h3
    rw [show ({ x with rq := x.rq.tick n1 } : Px).qu.due = false from dq] at this
    refine this.mono ?_
    rintro e w' ⟨a1, a2⟩
    exact ⟨a1, a2.perm (List.perm_middle (l₁ := pxL P { x with rq := x.rq.tick n1, qu := x.qu.tick n2 } b m (x.rq.now n1 m) (x.qu.now n2 m)))⟩)
  have hN7 := hid hN7
  clear hr hq h1 h2 h3 g1 g2 hw hw2 ha ha2 dr dq
  clear h hN
  go_enter Tryz.func48, Tryz.ntmps48
  go_wp2_with fail
  refine T33R.out.mono ?_
  rintro e w1 ⟨rfl, hw1⟩
  have A2 : Hid (All (msC (.slice none 0 0) ([] : List Ms) :: (pxL P { x with rq := x.rq.tick n1 } b m (x.rq.now n1 m) n2 ++ cs)) w1) := hid hw1.addRow0
  clear hw1 T33R
  go_wp2_with fail
  refine (T33Q.out _ _ A2.out).mono ?_
  rintro e w3 ⟨rfl, hw3⟩
  have A3 := hid hw3
  clear hw3 A2
  go_wp2
  go_ret
  exact ⟨_, rfl, A3.out⟩
end Go.Proofs.YtdhkdniddjnigaaGreatDoor

namespace Go.Proofs.YtdhkdniddjnigaaGreatDoor
open Go.RowKit
set_option linter.unusedVariables false

set_option maxHeartbeats 3200000 in
set_option maxRecDepth 1000000 in
theorem tick_rn {P : Nat} {x : Px} {b m n1 n2 : Int} {cs : List Comp} {w : World} (h : All (pxL P x b m n1 n2 ++ cs) w) (hr : x.rq.okL) (hq : x.qu.okL) (h1 : 1 ≤ n1) (h2 : n1 ≤ m) (h3 : m ≤ 1024) (g1 : 1 ≤ n2) (g2 : n2 ≤ m) (N : Nat) (hN : x.n = (N : Int)) (hN7 : 1 ≤ N ∧ N ≤ 7) (hw : 0 ≤ x.who) (hw2 : x.who ≤ 7) (ha : 0 ≤ x.again) (ha2 : x.again ≤ 4611686018427387904) (dr : x.rq.due = true) (dq : x.qu.due = false) :
    Calls Tryz.prog 48 #[.pointer (some ⟨P, 0, none⟩)] w fun e w' => ∃ v, e = .returned v ∧ All (msC v (again x N) :: (pxL P { x with rq := x.rq.tick n1, qu := x.qu.tick n2 } b m (x.rq.now n1 m) (x.qu.now n2 m) ++ cs)) w' := by
  have T33R : Hid (Calls Tryz.prog 77 #[.pointer (some ⟨P, 4, none⟩)] w fun e w' => e = .returned (.bool true) ∧ All (pxL P { x with rq := x.rq.tick n1 } b m (x.rq.now n1 m) n2 ++ cs) w') := hid (by have := tick33R h hr h1 h2 h3; rw [dr] at this; exact this)
  have T33Q : Hid (∀ W c, All (c :: (pxL P { x with rq := x.rq.tick n1 } b m (x.rq.now n1 m) n2 ++ cs)) W → Calls Tryz.prog 77 #[.pointer (some ⟨P, 13, none⟩)] W fun e w' => e = .returned (.bool false) ∧ All (c :: (pxL P { x with rq := x.rq.tick n1, qu := x.qu.tick n2 } b m (x.rq.now n1 m) (x.qu.now n2 m) ++ cs)) w') := hid (fun W c hW => by
    have := tick33Q (x := { x with rq := x.rq.tick n1 }) (cs := c :: cs) (hW.perm (List.perm_middle (l₁ := pxL P { x with rq := x.rq.tick n1 } b m (x.rq.now n1 m) n2)).symm) hq g1 g2 h3
    rw [show ({ x with rq := x.rq.tick n1 } : Px).qu.due = false from dq] at this
    refine this.mono ?_
    rintro e w' ⟨a1, a2⟩
    exact ⟨a1, a2.perm (List.perm_middle (l₁ := pxL P { x with rq := x.rq.tick n1, qu := x.qu.tick n2 } b m (x.rq.now n1 m) (x.qu.now n2 m)))⟩)
  have hN7 := hid hN7
  have C25 : Hid (∀ W (k : Nat) c, All (c :: (pxL P { x with rq := x.rq.tick n1 } b m (x.rq.now n1 m) n2 ++ cs)) W → Calls Tryz.prog 78 #[.pointer (some ⟨P, 4, none⟩), .int .i64 x.id, .int .i64 (k : Int)] W fun e w' => e = .returned (.agg (rqM x.id k x.rq).cells.toArray) ∧ Below W.heap.size W w') := hid (fun W k c hW => by
    have := msgR (x := { x with rq := x.rq.tick n1 }) (cs := c :: cs) (hW.perm (List.perm_middle (l₁ := pxL P { x with rq := x.rq.tick n1 } b m (x.rq.now n1 m) n2)).symm) x.id (k : Int)
    rw [show rqM x.id (k : Int) ({ x with rq := x.rq.tick n1 } : Px).rq = rqM x.id k x.rq from rqM_tick _ _ _ _] at this
    exact this)
  have SG : Hid (∀ W c, All (c :: (pxL P { x with rq := x.rq.tick n1 } b m (x.rq.now n1 m) n2 ++ cs)) W → (fun W => W.cell? ⟨P, 1, none⟩ = some (.int .i64 x.id)) W) := hid (fun W c hW => by show W.cell? _ = _; rw [cell_at hW.tail.1.2.1]; rfl)
  have c0x : w.cell? ⟨P, 0, none⟩ = some (.int .i64 x.n) := by rw [cell_at h.px]; rfl
  clear hr hq h1 h2 h3 g1 g2 hw hw2 ha ha2 dr dq
  clear c0x
  have hN := hid hN
  clear h
  go_enter Tryz.func48, Tryz.ntmps48
  go_wp2_with fail
  refine T33R.out.mono ?_
  rintro e w1 ⟨rfl, hw1⟩
  have A1 := hid hw1
  clear hw1 T33R
  have c0 : w1.cell? ⟨P, 0, none⟩ = some (.int .i64 (N : Int)) := by rw [cell_at A1.out.px, ← hN.out]; rfl
  go_wp2
  go_loopw [3, 14] (fun sv iv wr => ∃ (k : Nat) (sa : Option Addr) (sc : Nat), k ≤ N ∧ sv = .slice sa k sc ∧ iv = .int .i64 (k : Int) ∧ Hid (All (rowC 51 23 (.slice sa k sc) k ((again x k).flatMap Ms.cells) :: (pxL P { x with rq := x.rq.tick n1 } b m (x.rq.now n1 m) n2 ++ cs)) wr)) (fun _ iv _ => N - (intOf iv).toNat)
  case atStart => exact ⟨0, none, 0, Nat.zero_le _, rfl, rfl, hid A1.out.addRow0⟩
  case round =>
    clear A1 c0
    obtain ⟨k, sa, sc, hk, rfl, rfl, A2⟩ := hrel
    by_cases hlt : k < N
    · have el : decide ((k : Int) < (N : Int)) = true := by simpa using hlt
      have hk7 : k ≤ 7 := by have := hN7.out; omega
      obtain ⟨ie, z, bs⟩ := bs41 (rqM x.id k x.rq)
      have BS := hid bs
      obtain ⟨MM, hMM⟩ : ∃ MM, Hid (MM = (rqM x.id k x.rq).cells) := ⟨_, hid rfl⟩
      have C25 : Hid (∀ W (j : Nat) c, All (c :: (pxL P { x with rq := x.rq.tick n1 } b m (x.rq.now n1 m) n2 ++ cs)) W → Calls Tryz.prog 78 #[.pointer (some ⟨P, 4, none⟩), .int .i64 x.id, .int .i64 (k : Int)] W fun e w' => e = .returned (.agg MM.toArray) ∧ Below W.heap.size W w') := hid (fun W j c hW => by rw [hMM.out]; exact C25.out W k c hW)
      rw [← hMM.out] at BS
      clear bs
      go_upto_region 6 with fail
      have A3 : Hid (All (msC (.slice sa k sc) (again x k) :: (pxL P { x with rq := x.rq.tick n1 } b m (x.rq.now n1 m) n2 ++ cs)) wr.drew) := hid (by unfold msC; rw [again_len]; exact A2.out.drew)
      have p0 := hid (SG.out _ _ A3.out)
      refine wp_region_held_drew (S := (fun W => W.cell? ⟨P, 1, none⟩ = some (.int .i64 x.id))) (by kernel_rfl) p0.out (fun hHeld => ?_)
      refine wpAnyH_take (i := 0) (oi := { dst := some 17, op := Go.Op.move (Go.Operand.tmp 3), type := 59, pos := "proxy.go:100", after := #[], guard := none }) (v := ?_) rfl (by kernel_rfl) (by kernel_rfl) (by kernel_rfl) (fun _ _ _ h => h) (Or.inl ⟨by rfl, ?_⟩) hHeld ?_
      rotate_left
      · intro W hSw
        (try dsimp only at hSw)
        go_simp
        (try with_reducible rfl)
      (try simp only [Act.put, List.setIfInBounds_toArray, List.set_cons_zero, List.set_cons_succ])
      refine wpAnyH_take (i := 1) (oi := { dst := some 18, op := Go.Op.move (Go.Operand.tmp 0), type := 70, pos := "proxy.go:100", after := #[], guard := none }) (v := ?_) rfl (by kernel_rfl) (by kernel_rfl) (by kernel_rfl) (fun _ _ _ h => h) (Or.inl ⟨by rfl, ?_⟩) hHeld ?_
      rotate_left
      · intro W hSw
        (try dsimp only at hSw)
        go_simp
        (try with_reducible rfl)
      (try simp only [Act.put, List.setIfInBounds_toArray, List.set_cons_zero, List.set_cons_succ])
      refine wpAnyH_take (i := 2) (oi := { dst := some 19, op := Go.Op.nilCheck (Go.Operand.tmp 18), type := 0, pos := "proxy.go:100", after := #[{ on := 1, ground := Go.Ground.data }], guard := none }) (v := ?_) rfl (by kernel_rfl) (by kernel_rfl) (by kernel_rfl) (fun _ _ _ h => h) (Or.inl ⟨by rfl, ?_⟩) hHeld ?_
      rotate_left
      · intro W hSw
        (try dsimp only at hSw)
        go_simp
        (try with_reducible rfl)
      (try simp only [Act.put, List.setIfInBounds_toArray, List.set_cons_zero, List.set_cons_succ])
      refine wpAnyH_take (i := 3) (oi := { dst := some 20, op := Go.Op.fieldAddr 111 (Go.Operand.tmp 19) 4, type := 0, pos := "proxy.go:100", after := #[{ on := 2, ground := Go.Ground.data }], guard := none }) (v := ?_) rfl (by kernel_rfl) (by kernel_rfl) (by kernel_rfl) (fun _ _ _ h => h) (Or.inl ⟨by rfl, ?_⟩) hHeld ?_
      rotate_left
      · intro W hSw
        (try dsimp only at hSw)
        go_simp
        (try with_reducible rfl)
      (try simp only [Act.put, List.setIfInBounds_toArray, List.set_cons_zero, List.set_cons_succ])
      refine wpAnyH_take (i := 4) (oi := { dst := some 21, op := Go.Op.move (Go.Operand.tmp 0), type := 70, pos := "proxy.go:100", after := #[], guard := none }) (v := ?_) rfl (by kernel_rfl) (by kernel_rfl) (by kernel_rfl) (fun _ _ _ h => h) (Or.inl ⟨by rfl, ?_⟩) hHeld ?_
      rotate_left
      · intro W hSw
        (try dsimp only at hSw)
        go_simp
        (try with_reducible rfl)
      (try simp only [Act.put, List.setIfInBounds_toArray, List.set_cons_zero, List.set_cons_succ])
      refine wpAnyH_take (i := 5) (oi := { dst := some 22, op := Go.Op.nilCheck (Go.Operand.tmp 21), type := 0, pos := "proxy.go:100", after := #[{ on := 4, ground := Go.Ground.data }], guard := none }) (v := ?_) rfl (by kernel_rfl) (by kernel_rfl) (by kernel_rfl) (fun _ _ _ h => h) (Or.inl ⟨by rfl, ?_⟩) hHeld ?_
      rotate_left
      · intro W hSw
        (try dsimp only at hSw)
        go_simp
        (try with_reducible rfl)
      (try simp only [Act.put, List.setIfInBounds_toArray, List.set_cons_zero, List.set_cons_succ])
      refine wpAnyH_take (i := 6) (oi := { dst := some 23, op := Go.Op.fieldAddr 111 (Go.Operand.tmp 22) 1, type := 0, pos := "proxy.go:100", after := #[{ on := 5, ground := Go.Ground.data }], guard := none }) (v := ?_) rfl (by kernel_rfl) (by kernel_rfl) (by kernel_rfl) (fun _ _ _ h => h) (Or.inl ⟨by rfl, ?_⟩) hHeld ?_
      rotate_left
      · intro W hSw
        (try dsimp only at hSw)
        go_simp
        (try with_reducible rfl)
      (try simp only [Act.put, List.setIfInBounds_toArray, List.set_cons_zero, List.set_cons_succ])
      refine wpAnyH_take (i := 7) (oi := { dst := some 24, op := Go.Op.load 3 (Go.Operand.tmp 23), type := 3, pos := "proxy.go:100", after := #[{ on := 6, ground := Go.Ground.data }], guard := none }) (v := ?_) rfl (by kernel_rfl) (by kernel_rfl) (by kernel_rfl) (fun _ _ _ h => h) (Or.inl ⟨by rfl, ?_⟩) hHeld ?_
      rotate_left
      · intro W hSw
        (try dsimp only at hSw)
        go_simp
        (try with_reducible rfl)
      (try simp only [Act.put, List.setIfInBounds_toArray, List.set_cons_zero, List.set_cons_succ])
      refine wpAnyH_take (i := 8) (oi := { dst := some 25, op := Go.Op.move (Go.Operand.tmp 4), type := 3, pos := "proxy.go:100", after := #[], guard := none }) (v := ?_) rfl (by kernel_rfl) (by kernel_rfl) (by kernel_rfl) (fun _ _ _ h => h) (Or.inl ⟨by rfl, ?_⟩) hHeld ?_
      rotate_left
      · intro W hSw
        (try dsimp only at hSw)
        go_simp
        (try with_reducible rfl)
      (try simp only [Act.put, List.setIfInBounds_toArray, List.set_cons_zero, List.set_cons_succ])
      refine wpAnyH_ready (rs := [9]) (by kernel_rfl) (by simp) ?_
      refine AllReadyH.cons (o := { dst := some 26, op := Go.Op.call { callee := Go.Callee.value (Go.Operand.func 78), args := #[Go.Operand.tmp 20, Go.Operand.tmp 24, Go.Operand.tmp 25], argTypes := #[107, 3, 3] }, type := 51, pos := "proxy.go:100", after := #[{ on := 3, ground := Go.Ground.data }, { on := 7, ground := Go.Ground.data }, { on := 8, ground := Go.Ground.data }], guard := none }) rfl (fun K hK => ?_) AllReadyH.nil
      go_simp
      refine (C25.out _ k _ A3.out).mono ?_; rintro e w4 ⟨rfl, hw4⟩; have A4 := hid (A3.out.later hw4); have p1 := hid (SG.out _ _ A4.out); clear hw4
      refine hK.out _ _ p1.out (fun hHeld => ?_)
      clear hK K
      (try simp only [Act.put, List.setIfInBounds_toArray, List.set_cons_zero, List.set_cons_succ])
      refine wpAnyH_ready (rs := [10]) (by kernel_rfl) (by simp) ?_
      refine AllReadyH.cons (o := { dst := some 27, op := Go.Op.buildSlice 59 1 #[(0, Go.Operand.tmp 26)], type := 59, pos := "proxy.go:100", after := #[{ on := 9, ground := Go.Ground.data }], guard := none }) rfl (fun K hK => ?_) AllReadyH.nil
      rw [if_pos (by rfl)]
      refine wp_buildSlice 59 51 1 _ rfl MM.toArray ie z und49 BS.out.i BS.out.o BS.out.s BS.out.p (fill_of BS.out.f (by kernel_rfl)) ?_; have A5 := hid ((A4.out.addBlk MM 51).swap); have p2 := hid (SG.out _ _ (A5.out.swap.tail))
      refine hK.out _ _ p2.out (fun hHeld => ?_)
      clear hK K
      (try simp only [Act.put, List.setIfInBounds_toArray, List.set_cons_zero, List.set_cons_succ])
      rw [hMM.out] at A5
      obtain ⟨ao, cap, w6, hr, hA6⟩ := appM A5.out (by rw [again_len]; omega)
      rw [again_len] at hr hA6
      rw [← again_succ] at hA6
      rw [← hMM.out] at hr hA6
      have R := hid hr
      have A6 : Hid (All (rowC 51 23 (.slice ao (k + 1) cap) (k + 1) ((again x (k + 1)).flatMap Ms.cells) :: (pxL P { x with rq := x.rq.tick n1 } b m (x.rq.now n1 m) n2 ++ cs)) w6) := hid (by have := hA6.swap.tail; unfold msC at this; rw [again_len] at this; exact this)
      have p3 := hid (SG.out _ _ A6.out)
      clear hr hA6
      refine wpAnyH_ready (rs := [11]) (by kernel_rfl) (by simp) ?_
      refine AllReadyH.cons (o := { dst := some 28, op := Go.Op.call { callee := Go.Callee.builtin Go.Builtin.append, args := #[Go.Operand.tmp 17, Go.Operand.tmp 27], argTypes := #[59, 59] }, type := 59, pos := "proxy.go:100", after := #[{ on := 0, ground := Go.Ground.data }, { on := 10, ground := Go.Ground.data }, { on := 9, ground := Go.Ground.chain }], guard := none }) rfl (fun K hK => ?_) AllReadyH.nil
      rw [if_pos (by rfl)]
      refine wp_append_run _ _ 59 rfl _ _ _ _ rfl rfl R.out ?_
      refine hK.out _ _ p3.out (fun hHeld => ?_)
      clear hK K
      (try simp only [Act.put, List.setIfInBounds_toArray, List.set_cons_zero, List.set_cons_succ])
      refine wpAnyH_take (i := 12) (oi := { dst := some 3, op := Go.Op.assign (Go.Operand.tmp 28), type := 59, pos := "proxy.go:100", after := #[{ on := 11, ground := Go.Ground.data }, { on := 11, ground := Go.Ground.chain }, { on := 0, ground := Go.Ground.phase }, { on := 1, ground := Go.Ground.phase }, { on := 2, ground := Go.Ground.phase }, { on := 3, ground := Go.Ground.phase }, { on := 4, ground := Go.Ground.phase }, { on := 5, ground := Go.Ground.phase }, { on := 6, ground := Go.Ground.phase }, { on := 7, ground := Go.Ground.phase }, { on := 8, ground := Go.Ground.phase }, { on := 9, ground := Go.Ground.phase }, { on := 10, ground := Go.Ground.phase }, { on := 11, ground := Go.Ground.phase }], guard := none }) (v := ?_) rfl (by kernel_rfl) (by kernel_rfl) (by kernel_rfl) (fun _ _ _ h => h) (Or.inl ⟨by rfl, ?_⟩) hHeld ?_
      rotate_left
      · intro W hSw
        (try dsimp only at hSw)
        go_simp
        (try with_reducible rfl)
      (try simp only [Act.put, List.setIfInBounds_toArray, List.set_cons_zero, List.set_cons_succ])
      refine wpAnyH_done (by kernel_rfl) ?_ _
      clear hHeld
      clear p0 p1 p2 p3 A5 A4 A3 A2 R
      go_wp2
      go_roundw
      case rel => exact ⟨k + 1, ao, cap, by omega, rfl, by go_num, A6⟩
      case measure => simp [intOf]; omega
    · have hkN : k = N := by omega
      have el : decide ((k : Int) < (N : Int)) = false := by simp; omega
      have A2 : Hid (All (msC (.slice sa k sc) (again x N) :: (pxL P { x with rq := x.rq.tick n1 } b m (x.rq.now n1 m) n2 ++ cs)) wr) := hid (by unfold msC; rw [again_len]; have h2 := A2.out; rw [show N = k from hkN.symm]; exact h2)
      clear hkN hk
      go_wp2_with fail
      refine (T33Q.out _ _ A2.out).mono ?_
      rintro e w3 ⟨rfl, hw3⟩
      have A3 := hid hw3
      clear hw3 A2
      go_wp2
      go_ret
      exact ⟨_, rfl, A3.out⟩
end Go.Proofs.YtdhkdniddjnigaaGreatDoor

namespace Go.Proofs.YtdhkdniddjnigaaGreatDoor
open Go.RowKit
set_option linter.unusedVariables false

/-- The example's reply. -/
def rpM : Ms := ⟨2, 2, 1, 5, 7, 0, 0, 0, 1, false, 0, ⟨#[]⟩, ⟨#[]⟩, 0, 0, 0, 0, none, 0, 0, none, 0, 0, 0, 0, none, 0, 0, none, 0, 0⟩
theorem rp_ml (W : World) : Ml W rpM [] [] [] [] :=
  ⟨⟨none, 0, rfl, Nat.le_refl _, Or.inl rfl⟩, fun i x hx => by simp at hx, fun i x hx => by simp at hx, fun i x hx => by simp at hx, rfl, rfl, rfl, rfl, by decide, by decide, by decide, by decide⟩
set_option maxRecDepth 100000 in
theorem rp_chk : chkM 3 rpM (fldE rpM.k.toNat rpM.h (rpM.may [] [] [] []) rpM.nil) = 0 := by decide +kernel
theorem rp_check {W : World} (hT : Tab W) (hF : Fld W) : Calls Tryz.prog 56 #[.int .i64 3, .agg rpM.cells.toArray] W fun e w' => e = .returned (.int .i64 0) ∧ Below W.heap.size W w' := by
  have := checkM_any (w := W) 3 (by decide) (by decide) rpM _ (fun hk W' b hW hM => fields34 (hT.below hW) (hF.below hW) hM (rp_ml W') (k := rpM.k.toNat) (by decide) (by decide))
  rw [rp_chk] at this
  exact this
theorem ms_form {v : Value} {l : List Ms} {cs : List Comp} {w : World} (h : All (msC v l :: cs) w) : ∃ ao cap, v = .slice ao l.length cap := owns_form h.1.2.1
end Go.Proofs.YtdhkdniddjnigaaGreatDoor

namespace Go.Proofs.YtdhkdniddjnigaaGreatDoor
open Go.RowKit
set_option linter.unusedVariables false

/-- A config that may be, out of any. -/
structure Cg where
  a0 : Int
  a1 : Int
  a2 : Int
  a3 : Int
  a4 : Int
  a5 : Int
  a6 : Int
  a7 : Int
  a8 : Int
  a9 : Int
def Cg.cells (c : Cg) : List Value := [.int .i64 c.a0, .int .i64 c.a1, .int .i64 c.a2, .int .i64 c.a3, .int .i64 c.a4, .int .i64 c.a5, .int .i64 c.a6, .int .i64 c.a7, .int .i64 c.a8, .int .i64 c.a9]
def Cg.ok (c : Cg) : Bool := cfgOK c.a0 c.a1 c.a2 c.a3 c.a4 c.a5 c.a6 c.a7 c.a8 c.a9
end Go.Proofs.YtdhkdniddjnigaaGreatDoor

namespace Go.Proofs.YtdhkdniddjnigaaGreatDoor
open Go.RowKit
set_option linter.unusedVariables false

def Px.askd (x : Px) (k : Int) (nm tx : ByteArray) (a d n2 : Int) : Px := { x with qu := { x.qu with num := x.qu.num + 1, wts := true, ok := k, onm := nm, otx := tx, on := a, om := d, left := n2 } }
/-- The state behind a question that began. -/
def Px.asked (x : Px) (k : Int) (nm tx : ByteArray) (a d n2 who : Int) : Px := { x.askd k nm tx a d n2 with who := who, least := x.seen }
set_option maxHeartbeats 1600000 in
set_option maxRecDepth 1000000 in
/-- A question that may be, where none waits. -/
theorem ask_ok {P : Nat} {x : Px} {b m n1 n2 : Int} {cs : List Comp} {w w0 : World} (h : All (pxL P x b m n1 n2 ++ cs) w) (hT : Tab w0) (hin : inC w0 ∈ cs) (k : Int) (nm tx : ByteArray) (a d : Int) (hc : chkA k nm.size tx.size a d = 0) (hk : 6 ≤ k ∧ k ≤ 8) (who : Int) (hw0 : 0 ≤ who) (hw1 : who < x.n) (hw : x.qu.wts = false) (hn : 0 ≤ x.qu.num) (hn2 : x.qu.num < 1099511627776) (h1 : 1 ≤ n2) (h2 : n2 ≤ m) (h3 : m ≤ 1024) :
    Calls Tryz.prog 193 #[.pointer (some ⟨P, 0, none⟩), .int .i64 who, opV k nm tx a d] w fun e w' => ∃ G, e = .returned (.tuple #[.slice (some ⟨G, 0, none⟩) 1 1, .int .i64 0]) ∧ All (blkC G (asM x.id who x.seen (x.asked k nm tx a d n2 who).qu).cells 51 :: (pxL P (x.asked k nm tx a d n2 who) b m n1 (min (2 * n2) m) ++ cs)) w' := by
  obtain ⟨H, hH⟩ : ∃ H, Hid (H = w.heap.size) := ⟨_, hid rfl⟩
  have A1 := hid (h.addBlk [.int .i64 k, .string nm, .string tx, .int .i64 a, .int .i64 d] 42)
  rw [← hH.out] at A1
  have A1 := hid (A1.out.perm (List.perm_middle (l₁ := pxL P x b m n1 n2)).symm)
  have C : Hid (Calls Tryz.prog 169 #[opV k nm tx a d] (w.alloc (.cells #[.int .i64 k, .string nm, .string tx, .int .i64 a, .int .i64 d] 42)) fun e w' => e = .returned (.int .i64 0) ∧ Below (w.alloc (.cells #[.int .i64 k, .string nm, .string tx, .int .i64 a, .int .i64 d] 42)).heap.size (w.alloc (.cells #[.int .i64 k, .string nm, .string tx, .int .i64 a, .int .i64 d] 42)) w') := hid (by
    have := check_any (hT.below (A1.out.into (List.mem_append_right _ (List.mem_cons_of_mem _ hin)))) k nm tx a d
    rw [hc] at this
    exact this)
  have C31 : Hid (∀ W : World, Calls Tryz.prog 170 #[.int .i64 k] W fun e w' => e = .returned (.bool true) ∧ w' = W) := hid (fun W => by have := query_any (w := W) k; rw [decide_eq_true hk] at this; exact this)
  have HC : Hid (∀ W, All (pxL P x b m n1 n2 ++ (blkC H [.int .i64 k, .string nm, .string tx, .int .i64 a, .int .i64 d] 42 :: cs)) W → Calls Tryz.prog 212 #[.pointer (some ⟨P, 13, none⟩), opV k nm tx a d] W fun e w' => e = .returned (.int .i64 0) ∧ All (pxL P (x.askd k nm tx a d n2) b m n1 (min (2 * n2) m) ++ (blkC H [.int .i64 k, .string nm, .string tx, .int .i64 a, .int .i64 d] 42 :: cs)) w') := hid (fun W hW => begQ_ok hW hw hn hn2 h1 h2 h3 k nm tx a d)
  have C32 : Hid (∀ W, All (pxL P (x.asked k nm tx a d n2 who) b m n1 (min (2 * n2) m) ++ (blkC H [.int .i64 k, .string nm, .string tx, .int .i64 a, .int .i64 d] 42 :: cs)) W → Calls Tryz.prog 79 #[.pointer (some ⟨P, 13, none⟩), .int .i64 x.id, .int .i64 who] W fun e w' => e = .returned (.agg (asM x.id who x.seen (x.asked k nm tx a d n2 who).qu).cells.toArray) ∧ Below W.heap.size W w') := hid (fun W hW => msgQ hW x.id who)
  obtain ⟨ie, z, bs⟩ := bs41 (asM x.id who x.seen (x.asked k nm tx a d n2 who).qu)
  have BS := hid bs
  obtain ⟨MM, hMM⟩ : ∃ MM, Hid (MM = (asM x.id who x.seen (x.asked k nm tx a d n2 who).qu).cells) := ⟨_, hid rfl⟩
  rw [← hMM.out] at BS C32 ⊢
  have e1 : decide (who < 0) = false := by simpa using hw0
  have e2 : decide (x.n ≤ who) = false := by simpa using hw1
  clear h hT hin hc hk hw hn hn2 h1 h2 h3 bs hw0 hw1
  go_enter Tryz.func193, Tryz.ntmps193
  go_wp2_with fail
  refine C.out.mono ?_
  rintro e w1 ⟨rfl, BB⟩
  have A2 : Hid (All (pxL P x b m n1 n2 ++ (blkC H [.int .i64 k, .string nm, .string tx, .int .i64 a, .int .i64 d] 42 :: cs)) w1) := hid (A1.out.later BB)
  simp only [← hH.out]
  clear BB C A1
  have SF : Hid (∀ W y p q, All (pxL P y b m p q ++ (blkC H [.int .i64 k, .string nm, .string tx, .int .i64 a, .int .i64 d] 42 :: cs)) W → W.cell? ⟨H, 0, none⟩ = some (.int .i64 k) ∧ W.cell? ⟨H, 1, none⟩ = some (.string nm) ∧ W.cell? ⟨H, 2, none⟩ = some (.string tx) ∧ W.cell? ⟨H, 3, none⟩ = some (.int .i64 a) ∧ W.cell? ⟨H, 4, none⟩ = some (.int .i64 d)) := hid (fun W y p q hW => opCells (hW.blk (by simp)))
  have k0 : w1.cell? ⟨H, 0, none⟩ = some (.int .i64 k) := (SF.out _ _ _ _ A2.out).1
  have c0 : w1.cell? ⟨P, 0, none⟩ = some (.int .i64 x.n) := by rw [cell_at A2.out.px]; rfl
  go_upto_region 8 with (go_at_call 170; refine (C31.out _).mono ?_; rintro e w' ⟨rfl, rfl⟩)
  have A3 := hid A2.out.drew
  have p0 := hid (SF.out _ _ _ _ A3.out)
  clear k0 c0
  go_region_held3 (fun W => W.cell? ⟨H, 0, none⟩ = some (.int .i64 k) ∧ W.cell? ⟨H, 1, none⟩ = some (.string nm) ∧ W.cell? ⟨H, 2, none⟩ = some (.string tx) ∧ W.cell? ⟨H, 3, none⟩ = some (.int .i64 a) ∧ W.cell? ⟨H, 4, none⟩ = some (.int .i64 d)) (first | with_reducible exact p0.out | with_reducible exact p1.out)
    (first
      | (go_at_call 212; refine (HC.out _ A3.out).mono ?_; rintro e w2 ⟨rfl, hw2⟩; have A4 := hid hw2; have p1 := hid (SF.out _ _ _ _ A4.out); clear hw2))
  clear p0 p1 A3 A2 SF HC
  have c3 : w2.cell? ⟨P, 3, none⟩ = some (.int .i64 x.seen) := by rw [cell_at A4.out.px]; rfl
  have c22 : w2.cell? ⟨P, 22, none⟩ = some (.int .i64 x.who) := by rw [cell_at A4.out.px]; rfl
  have c23 : w2.cell? ⟨P, 23, none⟩ = some (.int .i64 x.least) := by rw [cell_at A4.out.px]; rfl
  have f22 := free_at A4.out.px 22
  have f23 := free_at A4.out.px 23
  have A5 : Hid (All (pxL P (x.asked k nm tx a d n2 who) b m n1 (min (2 * n2) m) ++ (blkC H [.int .i64 k, .string nm, .string tx, .int .i64 a, .int .i64 d] 42 :: cs)) ((w2.setCell ⟨P, 22, none⟩ (.int .i64 who)).setCell ⟨P, 23, none⟩ (.int .i64 x.seen))) := hid ((A4.out.setBlk 22 (.int .i64 who)).setBlk 23 (.int .i64 x.seen))
  have SG : Hid (∀ W, All (pxL P (x.asked k nm tx a d n2 who) b m n1 (min (2 * n2) m) ++ (blkC H [.int .i64 k, .string nm, .string tx, .int .i64 a, .int .i64 d] 42 :: cs)) W → (fun W => W.cell? ⟨P, 1, none⟩ = some (.int .i64 x.id)) W) := hid (fun W hW => by show W.cell? _ = _; rw [cell_at hW.px]; rfl)
  go_upto_region 12 with fail
  generalize (w2.setCell ⟨P, 22, none⟩ (.int .i64 who)).setCell ⟨P, 23, none⟩ (.int .i64 x.seen) = w3 at A5 ⊢
  clear c3 c22 c23 f22 f23 A4
  have A6 := hid A5.out.drew
  have p0 := hid (SG.out _ A6.out)
  refine wp_region_held_drew (S := (fun W => W.cell? ⟨P, 1, none⟩ = some (.int .i64 x.id))) (by kernel_rfl) p0.out (fun hHeld => ?_)
  refine wpAnyH_take (i := 0) (oi := { dst := some 54, op := Go.Op.move (Go.Operand.tmp 0), type := 70, pos := "proxy.go:58", after := #[], guard := none }) (v := ?_) rfl (by kernel_rfl) (by kernel_rfl) (by kernel_rfl) (fun _ _ _ h => h) (Or.inl ⟨by rfl, ?_⟩) hHeld ?_
  rotate_left
  · intro W hSw
    (try dsimp only at hSw)
    go_simp
    (try with_reducible rfl)
  (try simp only [Act.put, List.setIfInBounds_toArray, List.set_cons_zero, List.set_cons_succ])
  refine wpAnyH_take (i := 1) (oi := { dst := some 55, op := Go.Op.nilCheck (Go.Operand.tmp 54), type := 0, pos := "proxy.go:58", after := #[{ on := 0, ground := Go.Ground.data }], guard := none }) (v := ?_) rfl (by kernel_rfl) (by kernel_rfl) (by kernel_rfl) (fun _ _ _ h => h) (Or.inl ⟨by rfl, ?_⟩) hHeld ?_
  rotate_left
  · intro W hSw
    (try dsimp only at hSw)
    go_simp
    (try with_reducible rfl)
  (try simp only [Act.put, List.setIfInBounds_toArray, List.set_cons_zero, List.set_cons_succ])
  refine wpAnyH_take (i := 2) (oi := { dst := some 56, op := Go.Op.fieldAddr 111 (Go.Operand.tmp 55) 5, type := 0, pos := "proxy.go:58", after := #[{ on := 1, ground := Go.Ground.data }], guard := none }) (v := ?_) rfl (by kernel_rfl) (by kernel_rfl) (by kernel_rfl) (fun _ _ _ h => h) (Or.inl ⟨by rfl, ?_⟩) hHeld ?_
  rotate_left
  · intro W hSw
    (try dsimp only at hSw)
    go_simp
    (try with_reducible rfl)
  (try simp only [Act.put, List.setIfInBounds_toArray, List.set_cons_zero, List.set_cons_succ])
  refine wpAnyH_take (i := 3) (oi := { dst := some 57, op := Go.Op.move (Go.Operand.tmp 0), type := 70, pos := "proxy.go:58", after := #[], guard := none }) (v := ?_) rfl (by kernel_rfl) (by kernel_rfl) (by kernel_rfl) (fun _ _ _ h => h) (Or.inl ⟨by rfl, ?_⟩) hHeld ?_
  rotate_left
  · intro W hSw
    (try dsimp only at hSw)
    go_simp
    (try with_reducible rfl)
  (try simp only [Act.put, List.setIfInBounds_toArray, List.set_cons_zero, List.set_cons_succ])
  refine wpAnyH_take (i := 4) (oi := { dst := some 58, op := Go.Op.nilCheck (Go.Operand.tmp 57), type := 0, pos := "proxy.go:58", after := #[{ on := 3, ground := Go.Ground.data }], guard := none }) (v := ?_) rfl (by kernel_rfl) (by kernel_rfl) (by kernel_rfl) (fun _ _ _ h => h) (Or.inl ⟨by rfl, ?_⟩) hHeld ?_
  rotate_left
  · intro W hSw
    (try dsimp only at hSw)
    go_simp
    (try with_reducible rfl)
  (try simp only [Act.put, List.setIfInBounds_toArray, List.set_cons_zero, List.set_cons_succ])
  refine wpAnyH_take (i := 5) (oi := { dst := some 59, op := Go.Op.fieldAddr 111 (Go.Operand.tmp 58) 1, type := 0, pos := "proxy.go:58", after := #[{ on := 4, ground := Go.Ground.data }], guard := none }) (v := ?_) rfl (by kernel_rfl) (by kernel_rfl) (by kernel_rfl) (fun _ _ _ h => h) (Or.inl ⟨by rfl, ?_⟩) hHeld ?_
  rotate_left
  · intro W hSw
    (try dsimp only at hSw)
    go_simp
    (try with_reducible rfl)
  (try simp only [Act.put, List.setIfInBounds_toArray, List.set_cons_zero, List.set_cons_succ])
  refine wpAnyH_take (i := 6) (oi := { dst := some 60, op := Go.Op.load 3 (Go.Operand.tmp 59), type := 3, pos := "proxy.go:58", after := #[{ on := 5, ground := Go.Ground.data }], guard := none }) (v := ?_) rfl (by kernel_rfl) (by kernel_rfl) (by kernel_rfl) (fun _ _ _ h => h) (Or.inl ⟨by rfl, ?_⟩) hHeld ?_
  rotate_left
  · intro W hSw
    (try dsimp only at hSw)
    go_simp
    (try with_reducible rfl)
  (try simp only [Act.put, List.setIfInBounds_toArray, List.set_cons_zero, List.set_cons_succ])
  refine wpAnyH_take (i := 7) (oi := { dst := some 61, op := Go.Op.move (Go.Operand.tmp 1), type := 3, pos := "proxy.go:58", after := #[], guard := none }) (v := ?_) rfl (by kernel_rfl) (by kernel_rfl) (by kernel_rfl) (fun _ _ _ h => h) (Or.inl ⟨by rfl, ?_⟩) hHeld ?_
  rotate_left
  · intro W hSw
    (try dsimp only at hSw)
    go_simp
    (try with_reducible rfl)
  (try simp only [Act.put, List.setIfInBounds_toArray, List.set_cons_zero, List.set_cons_succ])
  refine wpAnyH_ready (rs := [8]) (by kernel_rfl) (by simp) ?_
  refine AllReadyH.cons (o := { dst := some 62, op := Go.Op.call { callee := Go.Callee.value (Go.Operand.func 79), args := #[Go.Operand.tmp 56, Go.Operand.tmp 60, Go.Operand.tmp 61], argTypes := #[109, 3, 3] }, type := 51, pos := "proxy.go:58", after := #[{ on := 2, ground := Go.Ground.data }, { on := 6, ground := Go.Ground.data }, { on := 7, ground := Go.Ground.data }], guard := none }) rfl (fun K hK => ?_) AllReadyH.nil
  go_simp
  refine (C32.out _ A6.out).mono ?_; rintro e w5 ⟨rfl, hw5⟩; have A7 := hid (A6.out.later hw5); have p1 := hid (SG.out _ A7.out); clear hw5
  refine hK.out _ _ p1.out (fun hHeld => ?_)
  clear hK K
  (try simp only [Act.put, List.setIfInBounds_toArray, List.set_cons_zero, List.set_cons_succ])
  refine wpAnyH_ready (rs := [9]) (by kernel_rfl) (by simp) ?_
  refine AllReadyH.cons (o := { dst := some 63, op := Go.Op.buildSlice 59 1 #[(0, Go.Operand.tmp 62)], type := 59, pos := "proxy.go:58", after := #[{ on := 8, ground := Go.Ground.data }], guard := none }) rfl (fun K hK => ?_) AllReadyH.nil
  rw [if_pos (by rfl)]
  refine wp_buildSlice 59 51 1 _ rfl MM.toArray ie z und49 BS.out.i BS.out.o BS.out.s BS.out.p (fill_of BS.out.f (by kernel_rfl)) ?_; have A8 := hid (A7.out.addBlk MM 51); have p2 := hid (SG.out _ A8.out.tail)
  refine hK.out _ _ p2.out (fun hHeld => ?_)
  clear hK K
  (try simp only [Act.put, List.setIfInBounds_toArray, List.set_cons_zero, List.set_cons_succ])
  refine wpAnyH_take (i := 10) (oi := { dst := some 6, op := Go.Op.assign (Go.Operand.tmp 63), type := 59, pos := "proxy.go:58", after := #[{ on := 9, ground := Go.Ground.data }, { on := 8, ground := Go.Ground.chain }, { on := 0, ground := Go.Ground.phase }, { on := 1, ground := Go.Ground.phase }, { on := 2, ground := Go.Ground.phase }, { on := 3, ground := Go.Ground.phase }, { on := 4, ground := Go.Ground.phase }, { on := 5, ground := Go.Ground.phase }, { on := 6, ground := Go.Ground.phase }, { on := 7, ground := Go.Ground.phase }, { on := 8, ground := Go.Ground.phase }, { on := 9, ground := Go.Ground.phase }], guard := none }) (v := ?_) rfl (by kernel_rfl) (by kernel_rfl) (by kernel_rfl) (fun _ _ _ h => h) (Or.inl ⟨by rfl, ?_⟩) hHeld ?_
  rotate_left
  · intro W hSw
    (try dsimp only at hSw)
    go_simp
    (try with_reducible rfl)
  (try simp only [Act.put, List.setIfInBounds_toArray, List.set_cons_zero, List.set_cons_succ])
  refine wpAnyH_take (i := 11) (oi := { dst := some 7, op := Go.Op.assign (Go.Operand.const (Go.Value.int Go.IntKind.i64 0)), type := 35, pos := "proxy.go:58", after := #[{ on := 10, ground := Go.Ground.chain }, { on := 0, ground := Go.Ground.phase }, { on := 1, ground := Go.Ground.phase }, { on := 2, ground := Go.Ground.phase }, { on := 3, ground := Go.Ground.phase }, { on := 4, ground := Go.Ground.phase }, { on := 5, ground := Go.Ground.phase }, { on := 6, ground := Go.Ground.phase }, { on := 7, ground := Go.Ground.phase }, { on := 8, ground := Go.Ground.phase }, { on := 9, ground := Go.Ground.phase }, { on := 10, ground := Go.Ground.phase }], guard := none }) (v := ?_) rfl (by kernel_rfl) (by kernel_rfl) (by kernel_rfl) (fun _ _ _ h => h) (Or.inl ⟨by rfl, ?_⟩) hHeld ?_
  rotate_left
  · intro W hSw
    (try dsimp only at hSw)
    go_simp
    (try with_reducible rfl)
  (try simp only [Act.put, List.setIfInBounds_toArray, List.set_cons_zero, List.set_cons_succ])
  refine wpAnyH_done (by kernel_rfl) ?_ _
  clear hHeld
  clear p0 p1 p2 SG C32
  obtain ⟨G, hG⟩ : ∃ G, Hid (G = w5.heap.size) := ⟨_, hid rfl⟩
  rw [← hG.out] at A8
  simp only [← hG.out]
  generalize w5.alloc (.cells MM.toArray 51) = w6 at A8 ⊢
  go_wp2
  go_ret2
  exact ⟨G, rfl, (A8.out.perm (List.Perm.cons _ (List.perm_middle (l₁ := pxL P (x.asked k nm tx a d n2 who) b m n1 (min (2 * n2) m))))).swap.tail⟩
end Go.Proofs.YtdhkdniddjnigaaGreatDoor

namespace Go.Proofs.YtdhkdniddjnigaaGreatDoor
open Go.RowKit
set_option linter.unusedVariables false

set_option maxRecDepth 1000000 in
/-- Ask of an op that may not be. -/
theorem ask_bad {P : Nat} {x : Px} {b m n1 n2 : Int} {cs : List Comp} {w w0 : World} (h : All (pxL P x b m n1 n2 ++ cs) w) (hT : Tab w0) (hin : inC w0 ∈ cs) (k : Int) (nm tx : ByteArray) (a d : Int) (who : Int) (hc : chkA k nm.size tx.size a d ≠ 0) : Calls Tryz.prog 193 #[.pointer (some ⟨P, 0, none⟩), .int .i64 who, opV k nm tx a d] w fun e w' => e = .returned (.tuple #[.slice none 0 0, .int .i64 (chkA k nm.size tx.size a d)]) ∧ All (pxL P x b m n1 n2 ++ cs) w' := by
  have A1 := hid (h.alloc (.cells #[.int .i64 k, .string nm, .string tx, .int .i64 a, .int .i64 d] 42))
  have C := hid (check_any (hT.below (A1.out.into (List.mem_append_right _ hin))) k nm tx a d)
  generalize chkA k nm.size tx.size a d = E at hc C ⊢
  have e1 : (E != 0) = true := by simpa using hc
  clear h hT hin hc
  go_enter Tryz.func193, Tryz.ntmps193
  go_wp2_with fail
  refine C.out.mono ?_
  rintro e w1 ⟨rfl, BB⟩
  have A2 := hid (A1.out.later BB)
  clear BB C A1
  go_wp2
  go_ret2
  exact ⟨rfl, A2.out⟩
set_option maxHeartbeats 1600000 in
set_option maxRecDepth 1000000 in
/-- Ask of what is no query. -/
theorem ask_noq {P : Nat} {x : Px} {b m n1 n2 : Int} {cs : List Comp} {w w0 : World} (h : All (pxL P x b m n1 n2 ++ cs) w) (hT : Tab w0) (hin : inC w0 ∈ cs) (k : Int) (nm tx : ByteArray) (a d : Int) (who : Int) (hc : chkA k nm.size tx.size a d = 0) (hk : ¬ (6 ≤ k ∧ k ≤ 8)) : Calls Tryz.prog 193 #[.pointer (some ⟨P, 0, none⟩), .int .i64 who, opV k nm tx a d] w fun e w' => e = .returned (.tuple #[.slice none 0 0, .int .i64 56]) ∧ All (pxL P x b m n1 n2 ++ cs) w' := by
  obtain ⟨H, hH⟩ : ∃ H, Hid (H = w.heap.size) := ⟨_, hid rfl⟩
  have A1 := hid (h.addBlk [.int .i64 k, .string nm, .string tx, .int .i64 a, .int .i64 d] 42)
  rw [← hH.out] at A1
  have A1 := hid (A1.out.perm (List.perm_middle (l₁ := pxL P x b m n1 n2)).symm)
  have C : Hid (Calls Tryz.prog 169 #[opV k nm tx a d] (w.alloc (.cells #[.int .i64 k, .string nm, .string tx, .int .i64 a, .int .i64 d] 42)) fun e w' => e = .returned (.int .i64 0) ∧ Below (w.alloc (.cells #[.int .i64 k, .string nm, .string tx, .int .i64 a, .int .i64 d] 42)).heap.size (w.alloc (.cells #[.int .i64 k, .string nm, .string tx, .int .i64 a, .int .i64 d] 42)) w') := hid (by
    have := check_any (hT.below (A1.out.into (List.mem_append_right _ (List.mem_cons_of_mem _ hin)))) k nm tx a d
    rw [hc] at this
    exact this)
  have C31 : Hid (∀ W : World, Calls Tryz.prog 170 #[.int .i64 k] W fun e w' => e = .returned (.bool false) ∧ w' = W) := hid (fun W => by have := query_any (w := W) k; rw [decide_eq_false hk] at this; exact this)
  clear h hT hin hc hk
  go_enter Tryz.func193, Tryz.ntmps193
  go_wp2_with fail
  refine C.out.mono ?_
  rintro e w1 ⟨rfl, BB⟩
  have A2 : Hid (All (pxL P x b m n1 n2 ++ (blkC H [.int .i64 k, .string nm, .string tx, .int .i64 a, .int .i64 d] 42 :: cs)) w1) := hid (A1.out.later BB)
  simp only [← hH.out]
  clear BB C A1
  have SF : Hid (∀ W, All (pxL P x b m n1 n2 ++ (blkC H [.int .i64 k, .string nm, .string tx, .int .i64 a, .int .i64 d] 42 :: cs)) W → W.cell? ⟨H, 0, none⟩ = some (.int .i64 k) ∧ W.cell? ⟨H, 1, none⟩ = some (.string nm) ∧ W.cell? ⟨H, 2, none⟩ = some (.string tx) ∧ W.cell? ⟨H, 3, none⟩ = some (.int .i64 a) ∧ W.cell? ⟨H, 4, none⟩ = some (.int .i64 d)) := hid (fun W hW => opCells (hW.blk (by simp)))
  have k0 : w1.cell? ⟨H, 0, none⟩ = some (.int .i64 k) := (SF.out _ A2.out).1
  go_wp2_with (go_at_call 170; refine (C31.out _).mono ?_; rintro e w' ⟨rfl, rfl⟩)
  go_ret2
  exact ⟨rfl, (A2.out.perm (List.perm_middle (l₁ := pxL P x b m n1 n2))).tail⟩
set_option maxHeartbeats 1600000 in
set_option maxRecDepth 1000000 in
/-- Ask while a question waits. -/
theorem ask_no {P : Nat} {x : Px} {b m n1 n2 : Int} {cs : List Comp} {w w0 : World} (h : All (pxL P x b m n1 n2 ++ cs) w) (hT : Tab w0) (hin : inC w0 ∈ cs) (k : Int) (nm tx : ByteArray) (a d : Int) (who : Int) (hc : chkA k nm.size tx.size a d = 0) (hk : 6 ≤ k ∧ k ≤ 8) (hw0 : 0 ≤ who) (hw1 : who < x.n) {E : Int} (hE : E ≠ 0) (hC : ∀ W cs', All (pxL P x b m n1 n2 ++ cs') W → Calls Tryz.prog 212 #[.pointer (some ⟨P, 13, none⟩), opV k nm tx a d] W fun e w' => e = .returned (.int .i64 E) ∧ All (pxL P x b m n1 n2 ++ cs') w') : Calls Tryz.prog 193 #[.pointer (some ⟨P, 0, none⟩), .int .i64 who, opV k nm tx a d] w fun e w' => e = .returned (.tuple #[.slice none 0 0, .int .i64 E]) ∧ All (pxL P x b m n1 n2 ++ cs) w' := by
  obtain ⟨H, hH⟩ : ∃ H, Hid (H = w.heap.size) := ⟨_, hid rfl⟩
  have A1 := hid (h.addBlk [.int .i64 k, .string nm, .string tx, .int .i64 a, .int .i64 d] 42)
  rw [← hH.out] at A1
  have A1 := hid (A1.out.perm (List.perm_middle (l₁ := pxL P x b m n1 n2)).symm)
  have C : Hid (Calls Tryz.prog 169 #[opV k nm tx a d] (w.alloc (.cells #[.int .i64 k, .string nm, .string tx, .int .i64 a, .int .i64 d] 42)) fun e w' => e = .returned (.int .i64 0) ∧ Below (w.alloc (.cells #[.int .i64 k, .string nm, .string tx, .int .i64 a, .int .i64 d] 42)).heap.size (w.alloc (.cells #[.int .i64 k, .string nm, .string tx, .int .i64 a, .int .i64 d] 42)) w') := hid (by
    have := check_any (hT.below (A1.out.into (List.mem_append_right _ (List.mem_cons_of_mem _ hin)))) k nm tx a d
    rw [hc] at this
    exact this)
  have C31 : Hid (∀ W : World, Calls Tryz.prog 170 #[.int .i64 k] W fun e w' => e = .returned (.bool true) ∧ w' = W) := hid (fun W => by have := query_any (w := W) k; rw [decide_eq_true hk] at this; exact this)
  have HC := hid hC
  have e3 : (E != 0) = true := by simpa using hE
  have e1 : decide (who < 0) = false := by simpa using hw0
  have e2 : decide (x.n ≤ who) = false := by simpa using hw1
  clear h hT hin hc hk hC hE hw0 hw1
  go_enter Tryz.func193, Tryz.ntmps193
  go_wp2_with fail
  refine C.out.mono ?_
  rintro e w1 ⟨rfl, BB⟩
  have A2 : Hid (All (pxL P x b m n1 n2 ++ (blkC H [.int .i64 k, .string nm, .string tx, .int .i64 a, .int .i64 d] 42 :: cs)) w1) := hid (A1.out.later BB)
  simp only [← hH.out]
  clear BB C A1
  have SF : Hid (∀ W, All (pxL P x b m n1 n2 ++ (blkC H [.int .i64 k, .string nm, .string tx, .int .i64 a, .int .i64 d] 42 :: cs)) W → W.cell? ⟨H, 0, none⟩ = some (.int .i64 k) ∧ W.cell? ⟨H, 1, none⟩ = some (.string nm) ∧ W.cell? ⟨H, 2, none⟩ = some (.string tx) ∧ W.cell? ⟨H, 3, none⟩ = some (.int .i64 a) ∧ W.cell? ⟨H, 4, none⟩ = some (.int .i64 d)) := hid (fun W hW => opCells (hW.blk (by simp)))
  have k0 : w1.cell? ⟨H, 0, none⟩ = some (.int .i64 k) := (SF.out _ A2.out).1
  have c0 : w1.cell? ⟨P, 0, none⟩ = some (.int .i64 x.n) := by rw [cell_at A2.out.px]; rfl
  go_upto_region 8 with (go_at_call 170; refine (C31.out _).mono ?_; rintro e w' ⟨rfl, rfl⟩)
  have A3 := hid A2.out.drew
  have p0 := hid (SF.out _ A3.out)
  clear k0 c0
  go_region_held3 (fun W => W.cell? ⟨H, 0, none⟩ = some (.int .i64 k) ∧ W.cell? ⟨H, 1, none⟩ = some (.string nm) ∧ W.cell? ⟨H, 2, none⟩ = some (.string tx) ∧ W.cell? ⟨H, 3, none⟩ = some (.int .i64 a) ∧ W.cell? ⟨H, 4, none⟩ = some (.int .i64 d)) (first | with_reducible exact p0.out | with_reducible exact p1.out)
    (first
      | (go_at_call 212; refine (HC.out _ _ A3.out).mono ?_; rintro e w2 ⟨rfl, hw2⟩; have A4 := hid hw2; have p1 := hid (SF.out _ A4.out); clear hw2))
  clear p0 p1 A3 A2
  go_wp2
  go_ret2
  exact ⟨rfl, (A4.out.perm (List.perm_middle (l₁ := pxL P x b m n1 n2))).tail⟩
end Go.Proofs.YtdhkdniddjnigaaGreatDoor

namespace Go.Proofs.YtdhkdniddjnigaaGreatDoor
open Go.RowKit
set_option linter.unusedVariables false

/-- What a line asks for. -/
structure Wi where
  no : Int
  ask : Bool
  who : Int
  o : OpR
/-- What is known of a gate but for what it tells. -/
structure Gs where
  no : Int
  tx : List UInt8
  long : Bool
  uw : Int
  ws : List Wi
  x : Px
  n1 : Int
  n2 : Int
/-- What a call makes: how the gate stands, what is said, what is told. -/
structure Go where
  s : Gs
  ms : List Ms
  tl : List UInt8

def subB : List UInt8 := [115, 117, 98, 109, 105, 116]
def askB : List UInt8 := [97, 115, 107]
def refuB : List UInt8 := [114, 101, 102, 117, 115, 101, 100]
def doneB : List UInt8 := [100, 111, 110, 101]
def toldB : List UInt8 := [116, 111, 108, 100]

/-- A line that is told. -/
def lnB (no : Int) (l : Ws) : List UInt8 := joinW (Lib.itoa no :: l) ++ [10]
def refL (no e : Int) : List UInt8 := lnB no [refuB, Lib.itoa e]

inductive Rd where
  | err (e : Int)
  | none
  | wish (ask : Bool) (who : Int) (o : OpR)
/-- An op behind which nothing is left. -/
def opRd (l : Ws) : Int × OpR := if (readO l).e ≠ 0 then ((readO l).e, ⟨0, [], [], 0, 0⟩) else if (readO l).k < l.length then (164, ⟨0, [], [], 0, 0⟩) else (0, (readO l).o)
def reqR (l : Ws) : Rd := if (opRd l).1 ≠ 0 then .err (opRd l).1 else .wish false 0 (opRd l).2
def queR (l : Ws) : Rd := match l with
  | [] => .err 162
  | x :: r => match numW x with
    | Option.none => .err 163
    | some n => if (opRd r).1 ≠ 0 then .err (opRd r).1 else .wish true (n : Int) (opRd r).2
def wishR (l : Ws) : Rd := match l with
  | [] => .none
  | x :: r => if x = subB then reqR r else if x = askB then queR r else .err 230
/-- What a line says. -/
def readM (tx : List UInt8) (long : Bool) : Rd := if long then .err 160 else if (splitW tx).err ≠ 0 then .err ((splitW tx).err : Int) else wishR (splitW tx).ws

def Wi.chk (w : Wi) : Int := chkA w.o.k (⟨w.o.nm.toArray⟩ : ByteArray).size (⟨w.o.tx.toArray⟩ : ByteArray).size (w.o.n : Int) (w.o.m : Int)
/-- Why a wish is refused when it begins. -/
def bgE (x : Px) (w : Wi) : Int :=
  if w.chk ≠ 0 then w.chk else
    if w.ask then (if ¬ (6 ≤ w.o.k ∧ w.o.k ≤ 8) then 56 else if w.who < 0 ∨ x.n ≤ w.who then 1 else if x.qu.wts then 141 else if x.qu.num = 1099511627776 then 142 else 0)
    else (if x.rq.wts then 141 else if x.rq.num = 1099511627776 then 142 else 0)
def bgX (x : Px) (w : Wi) (n1 n2 : Int) : Px := if w.ask then x.asked w.o.k ⟨w.o.nm.toArray⟩ ⟨w.o.tx.toArray⟩ (w.o.n : Int) (w.o.m : Int) n2 w.who else x.sub w.o.k ⟨w.o.nm.toArray⟩ ⟨w.o.tx.toArray⟩ (w.o.n : Int) (w.o.m : Int) n1
def bgM (x : Px) (w : Wi) (n1 n2 : Int) : Ms := if w.ask then asM x.id w.who x.seen (bgX x w n1 n2).qu else rqM x.id (x.view.tmod x.n) (bgX x w n1 n2).rq
def bgS (m : Int) (s : Gs) (w : Wi) (r : List Wi) : Gs := { s with uw := w.no, ws := r, x := bgX s.x w s.n1 s.n2, n1 := if w.ask then s.n1 else min (2 * s.n1) m, n2 := if w.ask then min (2 * s.n2) m else s.n2 }
/-- What waits begins. -/
def goL (m : Int) (s : Gs) : List Wi → Go
  | [] => ⟨{ s with ws := [] }, [], []⟩
  | w :: r => if bgE s.x w = 0 then ⟨bgS m s w r, [bgM s.x w s.n1 s.n2], []⟩ else ⟨(goL m s r).s, (goL m s r).ms, refL w.no (bgE s.x w) ++ (goL m s r).tl⟩
def goM (m : Int) (s : Gs) : Go := if s.uw = 0 then goL m s s.ws else ⟨s, [], []⟩
/-- A finished line. -/
def hearM (m : Int) (s : Gs) : Go := match readM s.tx s.long with
  | .err e => ⟨s, [], refL s.no e⟩
  | .none => ⟨s, [], []⟩
  | .wish a w o => if s.ws.length = 16 then ⟨s, [], refL s.no 231⟩ else goM m { s with ws := s.ws ++ [⟨s.no, a, w, o⟩] }
def nxtM (s : Gs) : Gs := { s with no := s.no + 1, tx := [], long := false }
def addM (s : Gs) (p : List UInt8) : Gs := if s.long ∨ 8192 < s.tx.length + p.length then { s with tx := [], long := true } else { s with tx := s.tx ++ p }
/-- Bytes that are fed. -/
def feedM (m : Int) (s : Gs) : List UInt8 → Go
  | [] => ⟨s, [], []⟩
  | c :: r => if c = 10 then ⟨(feedM m (nxtM (hearM m s).s) r).s, (hearM m s).ms ++ (feedM m (nxtM (hearM m s).s) r).ms, (hearM m s).tl ++ (feedM m (nxtM (hearM m s).s) r).tl⟩ else feedM m (addM s [c]) r

theorem feedM_append (m : Int) (a b : List UInt8) : ∀ s, feedM m s (a ++ b) = ⟨(feedM m (feedM m s a).s b).s, (feedM m s a).ms ++ (feedM m (feedM m s a).s b).ms, (feedM m s a).tl ++ (feedM m (feedM m s a).s b).tl⟩ := by
  induction a with
  | nil => intro s; simp [feedM]
  | cons c r ih =>
    intro s
    simp only [List.cons_append, feedM]
    split
    · simp [ih, List.append_assoc]
    · rw [ih]
/-- Of a line that is too long nothing is kept. -/
def Gs.ok (s : Gs) : Prop := (s.long = true → s.tx = []) ∧ s.tx.length ≤ 8192
theorem addM_nil {s : Gs} (h : s.ok) : addM s [] = s := by
  obtain ⟨no, tx, long, uw, ws, x, n1, n2⟩ := s
  have h1 := h.1
  have h2 := h.2
  simp only at h1 h2
  unfold addM
  cases long with
  | true => simp [h1 rfl]
  | false => simp only [Bool.false_eq_true, false_or, List.length_nil, Nat.add_zero, List.append_nil]; rw [if_neg (by omega)]
theorem addM_ok {s : Gs} (h : s.ok) (p : List UInt8) : (addM s p).ok := by
  unfold addM
  split
  · exact ⟨fun _ => rfl, by simp⟩
  · rename_i hh
    simp only [not_or, Bool.not_eq_true] at hh
    refine ⟨fun e => ?_, ?_⟩
    · have : s.long = true := e
      rw [hh.1] at this; cases this
    · show (s.tx ++ p).length ≤ 8192
      rw [List.length_append]; omega
theorem addM_add (s : Gs) (p q : List UInt8) : addM (addM s p) q = addM s (p ++ q) := by
  unfold addM
  by_cases h1 : s.long = true ∨ 8192 < s.tx.length + p.length
  · rw [if_pos h1, if_pos (Or.inl rfl), if_pos (by rcases h1 with h | h; exact Or.inl h; exact Or.inr (by rw [List.length_append]; omega))]
  · have h1' := h1
    simp only [not_or, Bool.not_eq_true] at h1'
    rw [if_neg h1]
    by_cases h2 : 8192 < (s.tx ++ p).length + q.length
    · rw [if_pos (Or.inr h2), if_pos (Or.inr (by rw [List.length_append] at h2; rw [List.length_append]; omega))]
    · rw [if_neg (by simp [h1'.1]; rw [List.length_append] at h2; omega), if_neg (by rw [not_or]; exact ⟨by simp [h1'.1], by rw [List.length_append] at h2; rw [List.length_append]; omega⟩)]
      simp
/-- A piece without a line's end. -/
theorem feedM_piece {m : Int} {p r : List UInt8} (hp : (10 : UInt8) ∉ p) : ∀ {s : Gs}, s.ok → feedM m s (p ++ r) = feedM m (addM s p) r := by
  induction p with
  | nil => intro s h; rw [addM_nil h]; rfl
  | cons c p ih =>
    intro s h
    have hc : c ≠ 10 := fun e => hp (by simp [e])
    show (if c = 10 then _ else feedM m (addM s [c]) (p ++ r)) = _
    rw [if_neg hc, ih (fun h' => hp (by simp [h'])) (addM_ok h _), addM_add]
    rfl
end Go.Proofs.YtdhkdniddjnigaaGreatDoor

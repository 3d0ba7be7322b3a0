import Derived.Test.YtdhkdniddjnigaaGreatDoorJ13
namespace Go.Proofs.YtdhkdniddjnigaaGreatDoor
open Go.RowKit
set_option linter.unusedVariables false

def Wt.due (t : Wt) : Bool := t.wts && decide (t.left = 1)
def Wt.tick (t : Wt) (n : Int) : Wt := if t.wts then (if t.left = 1 then { t with left := n } else { t with left := t.left - 1 }) else t
def Wt.now (t : Wt) (n m : Int) : Int := if t.due then min (2 * n) m else n
/-- Ticks that are left are in bounds. -/
def Wt.okL (t : Wt) : Prop := t.wts = true → 1 ≤ t.left ∧ t.left ≤ 1024

theorem tick33R {P : Nat} {x : Px} {b m n1 n2 : Int} {cs : List Comp} {w : World} (h : All (pxL P x b m n1 n2 ++ cs) w) (hl : x.rq.okL) (h1 : 1 ≤ n1) (h2 : n1 ≤ m) (h3 : m ≤ 1024) : Calls Tryz.prog 77 #[.pointer (some ⟨P, 4, none⟩)] w fun e w' => e = .returned (.bool x.rq.due) ∧ All (pxL P { x with rq := x.rq.tick n1 } b m (x.rq.now n1 m) n2 ++ cs) w' := by
  by_cases hw : x.rq.wts = true
  · by_cases hl1 : x.rq.left = 1
    · have ed : x.rq.due = true := by simp [Wt.due, hw, hl1]
      have en : x.rq.now n1 m = min (2 * n1) m := by simp [Wt.now, ed]
      have et : x.rq.tick n1 = { x.rq with left := n1 } := by simp [Wt.tick, hw, hl1]
      rw [ed, en, et]
      exact tickR_yes h hw hl1 h1 h2 h3
    · have hb := hl hw
      have ed : x.rq.due = false := by simp [Wt.due, hl1]
      have en : x.rq.now n1 m = n1 := by simp [Wt.now, ed]
      have et : x.rq.tick n1 = { x.rq with left := x.rq.left - 1 } := by simp [Wt.tick, hw, hl1]
      rw [ed, en, et]
      exact tickR_less h hw (by omega) hb.2
  · have hw : x.rq.wts = false := by simpa using hw
    have ed : x.rq.due = false := by simp [Wt.due, hw]
    have en : x.rq.now n1 m = n1 := by simp [Wt.now, ed]
    have et : x.rq.tick n1 = x.rq := by simp [Wt.tick, hw]
    rw [ed, en, et]
    refine (tickR_no h hw).mono ?_
    rintro e w' ⟨h1, rfl⟩
    exact ⟨h1, h⟩

theorem tick33Q {P : Nat} {x : Px} {b m n1 n2 : Int} {cs : List Comp} {w : World} (h : All (pxL P x b m n1 n2 ++ cs) w) (hl : x.qu.okL) (h1 : 1 ≤ n2) (h2 : n2 ≤ m) (h3 : m ≤ 1024) : Calls Tryz.prog 77 #[.pointer (some ⟨P, 13, none⟩)] w fun e w' => e = .returned (.bool x.qu.due) ∧ All (pxL P { x with qu := x.qu.tick n2 } b m n1 (x.qu.now n2 m) ++ cs) w' := by
  by_cases hw : x.qu.wts = true
  · by_cases hl1 : x.qu.left = 1
    · have ed : x.qu.due = true := by simp [Wt.due, hw, hl1]
      have en : x.qu.now n2 m = min (2 * n2) m := by simp [Wt.now, ed]
      have et : x.qu.tick n2 = { x.qu with left := n2 } := by simp [Wt.tick, hw, hl1]
      rw [ed, en, et]
      exact tickQ_yes h hw hl1 h1 h2 h3
    · have hb := hl hw
      have ed : x.qu.due = false := by simp [Wt.due, hl1]
      have en : x.qu.now n2 m = n2 := by simp [Wt.now, ed]
      have et : x.qu.tick n2 = { x.qu with left := x.qu.left - 1 } := by simp [Wt.tick, hw, hl1]
      rw [ed, en, et]
      exact tickQ_less h hw (by omega) hb.2
  · have hw : x.qu.wts = false := by simpa using hw
    have ed : x.qu.due = false := by simp [Wt.due, hw]
    have en : x.qu.now n2 m = n2 := by simp [Wt.now, ed]
    have et : x.qu.tick n2 = x.qu := by simp [Wt.tick, hw]
    rw [ed, en, et]
    refine (tickQ_no h hw).mono ?_
    rintro e w' ⟨h1, rfl⟩
    exact ⟨h1, h⟩

/-- The requests that are said again. -/
def again (x : Px) (k : Nat) : List Ms := (List.range k).map fun i : Nat => rqM x.id i x.rq
theorem again_len (x : Px) (k : Nat) : (again x k).length = k := by simp [again]
theorem again_succ (x : Px) (k : Nat) : again x (k + 1) = again x k ++ [rqM x.id k x.rq] := by simp [again, List.range_succ]
def sayR (x : Px) (N : Nat) : List Ms := if x.rq.due then again x N else []
def sayQ (x : Px) : List Ms := if x.qu.due then [asM x.id ((x.who + x.again).tmod x.n) x.least x.qu] else []
def Px.tick (x : Px) (n1 n2 : Int) : Px := { x with rq := x.rq.tick n1, qu := x.qu.tick n2, again := if x.qu.due then x.again + 1 else x.again }
theorem rqM_tick (f t n : Int) (x : Wt) : rqM f t (x.tick n) = rqM f t x := by
  unfold Wt.tick
  split
  · split <;> rfl
  · rfl
theorem asM_tick (f t l n : Int) (x : Wt) : asM f t l (x.tick n) = asM f t l x := by
  unfold Wt.tick
  split
  · split <;> rfl
  · rfl
end Go.Proofs.YtdhkdniddjnigaaGreatDoor

namespace Go.Proofs.YtdhkdniddjnigaaGreatDoor
open Go.RowKit
set_option linter.unusedVariables false

theorem px_there {W : World} {P : Nat} {x : Px} (h : W.heap[P]? = some (.cells x.cells.toArray 111 (0, 0))) (o n : Nat) (hn : o + n ≤ 25) : W.there P o n := by
  intro j hj
  refine ⟨?_, free_at h _⟩
  have hl : x.cells.toArray.size = 25 := rfl
  rw [cell_at h, Array.getElem?_eq_getElem (by omega)]
  rfl
def Wt.ended (t : Wt) : Wt := { t with wts := false, ok := 0, onm := ⟨#[]⟩, otx := ⟨#[]⟩, on := 0, om := 0, left := 0 }
set_option maxHeartbeats 1600000 in
set_option maxRecDepth 1000000 in
theorem endR {P : Nat} {x : Px} {b m n1 n2 : Int} {cs : List Comp} {w : World} (h : All (pxL P x b m n1 n2 ++ cs) w) : Calls Tryz.prog 95 #[.pointer (some ⟨P, 4, none⟩)] w fun e w' => e = .returned (.tuple #[]) ∧ All (pxL P { x with rq := x.rq.ended } b m b n2 ++ cs) w' := by
  have c12 : w.cell? ⟨P, 12, none⟩ = some (.pointer (some ⟨x.rq.pb, 0, none⟩)) := by rw [cell_at h.px]; rfl
  have C := hid (reset84 h.swap)
  clear h
  go_enter Tryz.func95, Tryz.ntmps95
  go_wp2_with fail
  refine C.out.mono ?_
  rintro e w1 ⟨rfl, hw1⟩
  have A1 := hid hw1.swap
  clear hw1 C c12
  go_upto_region 1 with fail
  have A2 := hid A1.out.drew
  have p0 : Hid ((fun W => W.cell? ⟨P, 4, none⟩ = some (.int .i64 x.rq.num) ∧ W.cell? ⟨P, 12, none⟩ = some (.pointer (some ⟨x.rq.pb, 0, none⟩))) w1.drew) := hid ⟨by rw [cell_at A2.out.1.2.1]; rfl, by rw [cell_at A2.out.1.2.1]; rfl⟩
  have A3 : Hid (All (pxL P { x with rq := x.rq.ended } b m b n2 ++ cs) (w1.drew.setCells P 4 ([.int .i64 x.rq.num, .bool false, .int .i64 0, .string ⟨#[]⟩, .string ⟨#[]⟩, .int .i64 0, .int .i64 0, .int .i64 0, .pointer (some ⟨x.rq.pb, 0, none⟩)] : List Value).toArray.toList)) := hid (((((((((A2.out.setBlk 4 (.int .i64 x.rq.num)).setBlk 5 (.bool false)).setBlk 6 (.int .i64 0)).setBlk 7 (.string ⟨#[]⟩)).setBlk 8 (.string ⟨#[]⟩)).setBlk 9 (.int .i64 0)).setBlk 10 (.int .i64 0)).setBlk 11 (.int .i64 0)).setBlk 12 (.pointer (some ⟨x.rq.pb, 0, none⟩)))
  have p1 : Hid ((fun W => W.cell? ⟨P, 4, none⟩ = some (.int .i64 x.rq.num) ∧ W.cell? ⟨P, 12, none⟩ = some (.pointer (some ⟨x.rq.pb, 0, none⟩))) (w1.drew.setCells P 4 ([.int .i64 x.rq.num, .bool false, .int .i64 0, .string ⟨#[]⟩, .string ⟨#[]⟩, .int .i64 0, .int .i64 0, .int .i64 0, .pointer (some ⟨x.rq.pb, 0, none⟩)] : List Value).toArray.toList)) := hid ⟨by rw [cell_at A3.out.1.2.1]; rfl, by rw [cell_at A3.out.1.2.1]; rfl⟩
  have TH : Hid (w1.drew.there P 4 (([.int .i64 x.rq.num, .bool false, .int .i64 0, .string ⟨#[]⟩, .string ⟨#[]⟩, .int .i64 0, .int .i64 0, .int .i64 0, .pointer (some ⟨x.rq.pb, 0, none⟩)] : List Value).toArray.size)) := hid (px_there A2.out.1.2.1 4 9 (by omega))
  have I67 : Hid ((Tryz.prog.info? 104).map (·.size) = some (([.int .i64 x.rq.num, .bool false, .int .i64 0, .string ⟨#[]⟩, .string ⟨#[]⟩, .int .i64 0, .int .i64 0, .int .i64 0, .pointer (some ⟨x.rq.pb, 0, none⟩)] : List Value).toArray.size)) := hid info67
  have O67 : Hid ((([.int .i64 x.rq.num, .bool false, .int .i64 0, .string ⟨#[]⟩, .string ⟨#[]⟩, .int .i64 0, .int .i64 0, .int .i64 0, .pointer (some ⟨x.rq.pb, 0, none⟩)] : List Value).toArray).all (·.oneCell') = true) := hid (by simp [Value.oneCell'])
  refine wp_region_held_drew (S := (fun W => W.cell? ⟨P, 4, none⟩ = some (.int .i64 x.rq.num) ∧ W.cell? ⟨P, 12, none⟩ = some (.pointer (some ⟨x.rq.pb, 0, none⟩)))) (by kernel_rfl) p0.out (fun hHeld => ?_)
  refine wpAnyH_take (i := 0) (oi := { dst := some 7, op := Go.Op.move (Go.Operand.tmp 0), type := 165, pos := "waiting.go:50", after := #[], guard := none }) (v := ?_) rfl (by kernel_rfl) (by kernel_rfl) (by kernel_rfl) (fun _ _ _ h => h) (Or.inl ⟨by rfl, ?_⟩) hHeld ?_
  rotate_left
  · intro W hSw
    (try dsimp only at hSw)
    go_simp
    (try with_reducible rfl)
  (try simp only [Act.put, List.setIfInBounds_toArray, List.set_cons_zero, List.set_cons_succ])
  refine wpAnyH_take (i := 1) (oi := { dst := some 8, op := Go.Op.move (Go.Operand.tmp 0), type := 165, pos := "waiting.go:50", after := #[], guard := none }) (v := ?_) rfl (by kernel_rfl) (by kernel_rfl) (by kernel_rfl) (fun _ _ _ h => h) (Or.inl ⟨by rfl, ?_⟩) hHeld ?_
  rotate_left
  · intro W hSw
    (try dsimp only at hSw)
    go_simp
    (try with_reducible rfl)
  (try simp only [Act.put, List.setIfInBounds_toArray, List.set_cons_zero, List.set_cons_succ])
  refine wpAnyH_take (i := 2) (oi := { dst := some 9, op := Go.Op.nilCheck (Go.Operand.tmp 8), type := 0, pos := "waiting.go:50", after := #[{ on := 1, ground := Go.Ground.data }], guard := none }) (v := ?_) rfl (by kernel_rfl) (by kernel_rfl) (by kernel_rfl) (fun _ _ _ h => h) (Or.inl ⟨by rfl, ?_⟩) hHeld ?_
  rotate_left
  · intro W hSw
    (try dsimp only at hSw)
    go_simp
    (try with_reducible rfl)
  (try simp only [Act.put, List.setIfInBounds_toArray, List.set_cons_zero, List.set_cons_succ])
  refine wpAnyH_take (i := 3) (oi := { dst := some 10, op := Go.Op.fieldAddr 104 (Go.Operand.tmp 9) 0, type := 0, pos := "waiting.go:50", after := #[{ on := 2, ground := Go.Ground.data }], guard := none }) (v := ?_) rfl (by kernel_rfl) (by kernel_rfl) (by kernel_rfl) (fun _ _ _ h => h) (Or.inl ⟨by rfl, ?_⟩) hHeld ?_
  rotate_left
  · intro W hSw
    (try dsimp only at hSw)
    go_simp
    (try with_reducible rfl)
  (try simp only [Act.put, List.setIfInBounds_toArray, List.set_cons_zero, List.set_cons_succ])
  refine wpAnyH_take (i := 4) (oi := { dst := some 11, op := Go.Op.load 3 (Go.Operand.tmp 10), type := 3, pos := "waiting.go:50", after := #[{ on := 3, ground := Go.Ground.data }], guard := none }) (v := ?_) rfl (by kernel_rfl) (by kernel_rfl) (by kernel_rfl) (fun _ _ _ h => h) (Or.inl ⟨by rfl, ?_⟩) hHeld ?_
  rotate_left
  · intro W hSw
    (try dsimp only at hSw)
    go_simp
    (try with_reducible rfl)
  (try simp only [Act.put, List.setIfInBounds_toArray, List.set_cons_zero, List.set_cons_succ])
  refine wpAnyH_take (i := 5) (oi := { dst := some 12, op := Go.Op.move (Go.Operand.tmp 0), type := 165, pos := "waiting.go:50", after := #[], guard := none }) (v := ?_) rfl (by kernel_rfl) (by kernel_rfl) (by kernel_rfl) (fun _ _ _ h => h) (Or.inl ⟨by rfl, ?_⟩) hHeld ?_
  rotate_left
  · intro W hSw
    (try dsimp only at hSw)
    go_simp
    (try with_reducible rfl)
  (try simp only [Act.put, List.setIfInBounds_toArray, List.set_cons_zero, List.set_cons_succ])
  refine wpAnyH_take (i := 6) (oi := { dst := some 13, op := Go.Op.nilCheck (Go.Operand.tmp 12), type := 0, pos := "waiting.go:50", after := #[{ on := 5, ground := Go.Ground.data }], guard := none }) (v := ?_) rfl (by kernel_rfl) (by kernel_rfl) (by kernel_rfl) (fun _ _ _ h => h) (Or.inl ⟨by rfl, ?_⟩) hHeld ?_
  rotate_left
  · intro W hSw
    (try dsimp only at hSw)
    go_simp
    (try with_reducible rfl)
  (try simp only [Act.put, List.setIfInBounds_toArray, List.set_cons_zero, List.set_cons_succ])
  refine wpAnyH_take (i := 7) (oi := { dst := some 14, op := Go.Op.fieldAddr 104 (Go.Operand.tmp 13) 4, type := 0, pos := "waiting.go:50", after := #[{ on := 6, ground := Go.Ground.data }], guard := none }) (v := ?_) rfl (by kernel_rfl) (by kernel_rfl) (by kernel_rfl) (fun _ _ _ h => h) (Or.inl ⟨by rfl, ?_⟩) hHeld ?_
  rotate_left
  · intro W hSw
    (try dsimp only at hSw)
    go_simp
    (try with_reducible rfl)
  (try simp only [Act.put, List.setIfInBounds_toArray, List.set_cons_zero, List.set_cons_succ])
  refine wpAnyH_take (i := 8) (oi := { dst := some 15, op := Go.Op.load 102 (Go.Operand.tmp 14), type := 102, pos := "waiting.go:50", after := #[{ on := 7, ground := Go.Ground.data }], guard := none }) (v := ?_) rfl (by kernel_rfl) (by kernel_rfl) (by kernel_rfl) (fun _ _ _ h => h) (Or.inl ⟨by rfl, ?_⟩) hHeld ?_
  rotate_left
  · intro W hSw
    (try dsimp only at hSw)
    go_simp
    (try with_reducible rfl)
  (try simp only [Act.put, List.setIfInBounds_toArray, List.set_cons_zero, List.set_cons_succ])
  refine wpAnyH_take (i := 9) (oi := { dst := some 16, op := Go.Op.build 104 #[(0, Go.Operand.tmp 11), (4, Go.Operand.tmp 15)], type := 104, pos := "waiting.go:50", after := #[{ on := 4, ground := Go.Ground.data }, { on := 8, ground := Go.Ground.data }], guard := none }) (v := .agg ([.int .i64 x.rq.num, .bool false, .int .i64 0, .string ⟨#[]⟩, .string ⟨#[]⟩, .int .i64 0, .int .i64 0, .int .i64 0, .pointer (some ⟨x.rq.pb, 0, none⟩)] : List Value).toArray) rfl (by kernel_rfl) (by kernel_rfl) (by kernel_rfl) (fun _ _ _ h => h) (yieldsIf_build (by rfl) 104 _ rfl ([.int .i64 x.rq.num, .bool false, .int .i64 0, .string ⟨#[]⟩, .string ⟨#[]⟩, .int .i64 0, .int .i64 0, .int .i64 0, .pointer (some ⟨x.rq.pb, 0, none⟩)] : List Value).toArray (by kernel_rfl)) hHeld ?_
  (try simp only [Act.put, List.setIfInBounds_toArray, List.set_cons_zero, List.set_cons_succ])
  refine wpAnyH_take (i := 10) (oi := { dst := some 17, op := Go.Op.nilCheck (Go.Operand.tmp 7), type := 0, pos := "waiting.go:50", after := #[{ on := 0, ground := Go.Ground.data }, { on := 0, ground := Go.Ground.phase }, { on := 1, ground := Go.Ground.phase }, { on := 2, ground := Go.Ground.phase }, { on := 3, ground := Go.Ground.phase }, { on := 4, ground := Go.Ground.phase }, { on := 5, ground := Go.Ground.phase }, { on := 6, ground := Go.Ground.phase }, { on := 7, ground := Go.Ground.phase }, { on := 8, ground := Go.Ground.phase }, { on := 9, ground := Go.Ground.phase }], guard := none }) (v := ?_) rfl (by kernel_rfl) (by kernel_rfl) (by kernel_rfl) (fun _ _ _ h => h) (Or.inl ⟨by rfl, ?_⟩) hHeld ?_
  rotate_left
  · intro W hSw
    (try dsimp only at hSw)
    go_simp
    (try with_reducible rfl)
  (try simp only [Act.put, List.setIfInBounds_toArray, List.set_cons_zero, List.set_cons_succ])
  refine wpAnyH_ready (rs := [11]) (by kernel_rfl) (by simp) ?_
  refine AllReadyH.cons (o := { dst := none, op := Go.Op.store 104 (Go.Operand.tmp 17) (Go.Operand.tmp 16), type := 0, pos := "waiting.go:50", after := #[{ on := 10, ground := Go.Ground.data }, { on := 9, ground := Go.Ground.data }, { on := 0, ground := Go.Ground.phase }, { on := 1, ground := Go.Ground.phase }, { on := 2, ground := Go.Ground.phase }, { on := 3, ground := Go.Ground.phase }, { on := 4, ground := Go.Ground.phase }, { on := 5, ground := Go.Ground.phase }, { on := 6, ground := Go.Ground.phase }, { on := 7, ground := Go.Ground.phase }, { on := 8, ground := Go.Ground.phase }, { on := 9, ground := Go.Ground.phase }], guard := none }) rfl (fun K hK => ?_) AllReadyH.nil
  rw [if_pos (by rfl)]
  refine wp_store_mid 104 _ _ rfl P 4 ([.int .i64 x.rq.num, .bool false, .int .i64 0, .string ⟨#[]⟩, .string ⟨#[]⟩, .int .i64 0, .int .i64 0, .int .i64 0, .pointer (some ⟨x.rq.pb, 0, none⟩)] : List Value).toArray rfl rfl TH.out I67.out O67.out ?_
  refine hK.out _ _ p1.out (fun hHeld => ?_)
  clear hK K
  (try simp only [Act.put])
  refine wpAnyH_done (by kernel_rfl) ?_ _
  clear hHeld
  clear p0 p1 TH I67 O67
  generalize w1.drew.setCells P 4 ([.int .i64 x.rq.num, .bool false, .int .i64 0, .string ⟨#[]⟩, .string ⟨#[]⟩, .int .i64 0, .int .i64 0, .int .i64 0, .pointer (some ⟨x.rq.pb, 0, none⟩)] : List Value).toArray.toList = w2 at A3 ⊢
  go_wp2
  go_end0
  exact ⟨rfl, A3.out⟩

theorem info48 : (Tryz.prog.info? 97).map (·.size) = some 7 := by kernel_rfl
abbrev zR : Value := .agg #[.int .i64 0, .int .i64 0, .slice none 0 0]
set_option maxRecDepth 1000000 in
theorem clone_nil {w : World} : Calls Tryz.prog 130 #[.slice none 0 0] w fun e w' => e = .returned (.slice none 0 0) ∧ w' = w := by
  have he := fun w => Lib.run_eql_slice_nil (P := Tryz.prog) w 43 9 none 0 0 0 0 Tryz.underlying43
  go_enter Tryz.func130, Tryz.ntmps130
  go_wp2
  go_ret
  exact ⟨rfl, rfl⟩
set_option maxRecDepth 1000000 in
theorem copied_nil {w : World} : Calls Tryz.prog 96 #[zR] w fun e w' => e = .returned zR ∧ Below w.heap.size w w' := by
  have C : Hid (∀ W : World, Calls Tryz.prog 130 #[.slice none 0 0] W fun e w' => e = .returned (.slice none 0 0) ∧ w' = W) := hid (fun W => clone_nil)
  go_enter Tryz.func96, Tryz.ntmps96
  go_wp2_with (go_at_call 130; refine (C.out _).mono ?_; rintro e w' ⟨rfl, rfl⟩)
  refine bodyPost_ret (v := zR) (by simp only [results, Tryz.f96]; go_simp) rfl ?_
  exact ⟨rfl, b2' (ba _ _) (ba _ _)⟩

end Go.Proofs.YtdhkdniddjnigaaGreatDoor

namespace Go.Proofs.YtdhkdniddjnigaaGreatDoor
open Go.RowKit
set_option linter.unusedVariables false

def Px.reply (x : Px) (m : Ms) : Px := { x with rq := x.rq.ended, view := max x.view m.v, seen := max x.seen m.n }

end Go.Proofs.YtdhkdniddjnigaaGreatDoor

namespace Go.Proofs.YtdhkdniddjnigaaGreatDoor
open Go.RowKit
set_option linter.unusedVariables false

theorem res15 {tmps : Array Value} {w : World} {b : Nat} {C : Array Value} {e : Value} (ht : tmps.getD 4 undef = .pointer (some ⟨b, 0, none⟩)) (h5 : tmps.getD 5 undef = e) (h : w.heap[b]? = some (.cells C 97 (0, 0))) (hi : (Tryz.prog.info? 97).map (·.size) = some C.size) : (results Tryz.f36 tmps).run Tryz.prog w = .ok (.tuple #[.agg C, e]) w := by
  have hp' : tmps[4]?.getD undef = .pointer (some ⟨b, 0, none⟩) := by simpa using ht
  have hp5 : tmps[5]?.getD undef = e := by simpa using h5
  have hres : Tryz.f36.results = #[.cell 4 97, .tmp 5] := rfl
  simp [results, hp', hp5, asAddr, run_loadVar_row w b 97 97 C (0, 0) _ h Tryz.underlying97 rfl hi]
end Go.Proofs.YtdhkdniddjnigaaGreatDoor

namespace Go.Proofs.YtdhkdniddjnigaaGreatDoor
open Go.RowKit
set_option linter.unusedVariables false

set_option maxHeartbeats 1600000 in
set_option maxRecDepth 1000000 in
theorem endQ {P : Nat} {x : Px} {b m n1 n2 : Int} {cs : List Comp} {w : World} (h : All (pxL P x b m n1 n2 ++ cs) w) : Calls Tryz.prog 95 #[.pointer (some ⟨P, 13, none⟩)] w fun e w' => e = .returned (.tuple #[]) ∧ All (pxL P { x with qu := x.qu.ended } b m n1 b ++ cs) w' := by
  have c21 : w.cell? ⟨P, 21, none⟩ = some (.pointer (some ⟨x.qu.pb, 0, none⟩)) := by rw [cell_at h.px]; rfl
  have C := hid (reset84 (h.perm (List.perm_middle (l₁ := [blkC P x.cells 111, boC x.rq.pb b m n1]))))
  clear h
  go_enter Tryz.func95, Tryz.ntmps95
  go_wp2_with fail
  refine C.out.mono ?_
  rintro e w1 ⟨rfl, hw1⟩
  have A1 : Hid (All (pxL P x b m n1 b ++ cs) w1) := hid (hw1.perm (List.perm_middle (l₁ := [blkC P x.cells 111, boC x.rq.pb b m n1])).symm)
  clear hw1 C c21
  go_upto_region 1 with fail
  have A2 := hid A1.out.drew
  have p0 : Hid ((fun W => W.cell? ⟨P, 13, none⟩ = some (.int .i64 x.qu.num) ∧ W.cell? ⟨P, 21, none⟩ = some (.pointer (some ⟨x.qu.pb, 0, none⟩))) w1.drew) := hid ⟨by rw [cell_at A2.out.1.2.1]; rfl, by rw [cell_at A2.out.1.2.1]; rfl⟩
  have A3 : Hid (All (pxL P { x with qu := x.qu.ended } b m n1 b ++ cs) (w1.drew.setCells P 13 ([.int .i64 x.qu.num, .bool false, .int .i64 0, .string ⟨#[]⟩, .string ⟨#[]⟩, .int .i64 0, .int .i64 0, .int .i64 0, .pointer (some ⟨x.qu.pb, 0, none⟩)] : List Value).toArray.toList)) := hid (((((((((A2.out.setBlk 13 (.int .i64 x.qu.num)).setBlk 14 (.bool false)).setBlk 15 (.int .i64 0)).setBlk 16 (.string ⟨#[]⟩)).setBlk 17 (.string ⟨#[]⟩)).setBlk 18 (.int .i64 0)).setBlk 19 (.int .i64 0)).setBlk 20 (.int .i64 0)).setBlk 21 (.pointer (some ⟨x.qu.pb, 0, none⟩)))
  have p1 : Hid ((fun W => W.cell? ⟨P, 13, none⟩ = some (.int .i64 x.qu.num) ∧ W.cell? ⟨P, 21, none⟩ = some (.pointer (some ⟨x.qu.pb, 0, none⟩))) (w1.drew.setCells P 13 ([.int .i64 x.qu.num, .bool false, .int .i64 0, .string ⟨#[]⟩, .string ⟨#[]⟩, .int .i64 0, .int .i64 0, .int .i64 0, .pointer (some ⟨x.qu.pb, 0, none⟩)] : List Value).toArray.toList)) := hid ⟨by rw [cell_at A3.out.1.2.1]; rfl, by rw [cell_at A3.out.1.2.1]; rfl⟩
  have TH : Hid (w1.drew.there P 13 (([.int .i64 x.qu.num, .bool false, .int .i64 0, .string ⟨#[]⟩, .string ⟨#[]⟩, .int .i64 0, .int .i64 0, .int .i64 0, .pointer (some ⟨x.qu.pb, 0, none⟩)] : List Value).toArray.size)) := hid (px_there A2.out.1.2.1 13 9 (by omega))
  have I67 : Hid ((Tryz.prog.info? 104).map (·.size) = some (([.int .i64 x.qu.num, .bool false, .int .i64 0, .string ⟨#[]⟩, .string ⟨#[]⟩, .int .i64 0, .int .i64 0, .int .i64 0, .pointer (some ⟨x.qu.pb, 0, none⟩)] : List Value).toArray.size)) := hid info67
  have O67 : Hid ((([.int .i64 x.qu.num, .bool false, .int .i64 0, .string ⟨#[]⟩, .string ⟨#[]⟩, .int .i64 0, .int .i64 0, .int .i64 0, .pointer (some ⟨x.qu.pb, 0, none⟩)] : List Value).toArray).all (·.oneCell') = true) := hid (by simp [Value.oneCell'])
  refine wp_region_held_drew (S := (fun W => W.cell? ⟨P, 13, none⟩ = some (.int .i64 x.qu.num) ∧ W.cell? ⟨P, 21, none⟩ = some (.pointer (some ⟨x.qu.pb, 0, none⟩)))) (by kernel_rfl) p0.out (fun hHeld => ?_)
  refine wpAnyH_take (i := 0) (oi := { dst := some 7, op := Go.Op.move (Go.Operand.tmp 0), type := 165, pos := "waiting.go:50", after := #[], guard := none }) (v := ?_) rfl (by kernel_rfl) (by kernel_rfl) (by kernel_rfl) (fun _ _ _ h => h) (Or.inl ⟨by rfl, ?_⟩) hHeld ?_
  rotate_left
  · intro W hSw
    (try dsimp only at hSw)
    go_simp
    (try with_reducible rfl)
  (try simp only [Act.put, List.setIfInBounds_toArray, List.set_cons_zero, List.set_cons_succ])
  refine wpAnyH_take (i := 1) (oi := { dst := some 8, op := Go.Op.move (Go.Operand.tmp 0), type := 165, pos := "waiting.go:50", after := #[], guard := none }) (v := ?_) rfl (by kernel_rfl) (by kernel_rfl) (by kernel_rfl) (fun _ _ _ h => h) (Or.inl ⟨by rfl, ?_⟩) hHeld ?_
  rotate_left
  · intro W hSw
    (try dsimp only at hSw)
    go_simp
    (try with_reducible rfl)
  (try simp only [Act.put, List.setIfInBounds_toArray, List.set_cons_zero, List.set_cons_succ])
  refine wpAnyH_take (i := 2) (oi := { dst := some 9, op := Go.Op.nilCheck (Go.Operand.tmp 8), type := 0, pos := "waiting.go:50", after := #[{ on := 1, ground := Go.Ground.data }], guard := none }) (v := ?_) rfl (by kernel_rfl) (by kernel_rfl) (by kernel_rfl) (fun _ _ _ h => h) (Or.inl ⟨by rfl, ?_⟩) hHeld ?_
  rotate_left
  · intro W hSw
    (try dsimp only at hSw)
    go_simp
    (try with_reducible rfl)
  (try simp only [Act.put, List.setIfInBounds_toArray, List.set_cons_zero, List.set_cons_succ])
  refine wpAnyH_take (i := 3) (oi := { dst := some 10, op := Go.Op.fieldAddr 104 (Go.Operand.tmp 9) 0, type := 0, pos := "waiting.go:50", after := #[{ on := 2, ground := Go.Ground.data }], guard := none }) (v := ?_) rfl (by kernel_rfl) (by kernel_rfl) (by kernel_rfl) (fun _ _ _ h => h) (Or.inl ⟨by rfl, ?_⟩) hHeld ?_
  rotate_left
  · intro W hSw
    (try dsimp only at hSw)
    go_simp
    (try with_reducible rfl)
  (try simp only [Act.put, List.setIfInBounds_toArray, List.set_cons_zero, List.set_cons_succ])
  refine wpAnyH_take (i := 4) (oi := { dst := some 11, op := Go.Op.load 3 (Go.Operand.tmp 10), type := 3, pos := "waiting.go:50", after := #[{ on := 3, ground := Go.Ground.data }], guard := none }) (v := ?_) rfl (by kernel_rfl) (by kernel_rfl) (by kernel_rfl) (fun _ _ _ h => h) (Or.inl ⟨by rfl, ?_⟩) hHeld ?_
  rotate_left
  · intro W hSw
    (try dsimp only at hSw)
    go_simp
    (try with_reducible rfl)
  (try simp only [Act.put, List.setIfInBounds_toArray, List.set_cons_zero, List.set_cons_succ])
  refine wpAnyH_take (i := 5) (oi := { dst := some 12, op := Go.Op.move (Go.Operand.tmp 0), type := 165, pos := "waiting.go:50", after := #[], guard := none }) (v := ?_) rfl (by kernel_rfl) (by kernel_rfl) (by kernel_rfl) (fun _ _ _ h => h) (Or.inl ⟨by rfl, ?_⟩) hHeld ?_
  rotate_left
  · intro W hSw
    (try dsimp only at hSw)
    go_simp
    (try with_reducible rfl)
  (try simp only [Act.put, List.setIfInBounds_toArray, List.set_cons_zero, List.set_cons_succ])
  refine wpAnyH_take (i := 6) (oi := { dst := some 13, op := Go.Op.nilCheck (Go.Operand.tmp 12), type := 0, pos := "waiting.go:50", after := #[{ on := 5, ground := Go.Ground.data }], guard := none }) (v := ?_) rfl (by kernel_rfl) (by kernel_rfl) (by kernel_rfl) (fun _ _ _ h => h) (Or.inl ⟨by rfl, ?_⟩) hHeld ?_
  rotate_left
  · intro W hSw
    (try dsimp only at hSw)
    go_simp
    (try with_reducible rfl)
  (try simp only [Act.put, List.setIfInBounds_toArray, List.set_cons_zero, List.set_cons_succ])
  refine wpAnyH_take (i := 7) (oi := { dst := some 14, op := Go.Op.fieldAddr 104 (Go.Operand.tmp 13) 4, type := 0, pos := "waiting.go:50", after := #[{ on := 6, ground := Go.Ground.data }], guard := none }) (v := ?_) rfl (by kernel_rfl) (by kernel_rfl) (by kernel_rfl) (fun _ _ _ h => h) (Or.inl ⟨by rfl, ?_⟩) hHeld ?_
  rotate_left
  · intro W hSw
    (try dsimp only at hSw)
    go_simp
    (try with_reducible rfl)
  (try simp only [Act.put, List.setIfInBounds_toArray, List.set_cons_zero, List.set_cons_succ])
  refine wpAnyH_take (i := 8) (oi := { dst := some 15, op := Go.Op.load 102 (Go.Operand.tmp 14), type := 102, pos := "waiting.go:50", after := #[{ on := 7, ground := Go.Ground.data }], guard := none }) (v := ?_) rfl (by kernel_rfl) (by kernel_rfl) (by kernel_rfl) (fun _ _ _ h => h) (Or.inl ⟨by rfl, ?_⟩) hHeld ?_
  rotate_left
  · intro W hSw
    (try dsimp only at hSw)
    go_simp
    (try with_reducible rfl)
  (try simp only [Act.put, List.setIfInBounds_toArray, List.set_cons_zero, List.set_cons_succ])
  refine wpAnyH_take (i := 9) (oi := { dst := some 16, op := Go.Op.build 104 #[(0, Go.Operand.tmp 11), (4, Go.Operand.tmp 15)], type := 104, pos := "waiting.go:50", after := #[{ on := 4, ground := Go.Ground.data }, { on := 8, ground := Go.Ground.data }], guard := none }) (v := .agg ([.int .i64 x.qu.num, .bool false, .int .i64 0, .string ⟨#[]⟩, .string ⟨#[]⟩, .int .i64 0, .int .i64 0, .int .i64 0, .pointer (some ⟨x.qu.pb, 0, none⟩)] : List Value).toArray) rfl (by kernel_rfl) (by kernel_rfl) (by kernel_rfl) (fun _ _ _ h => h) (yieldsIf_build (by rfl) 104 _ rfl ([.int .i64 x.qu.num, .bool false, .int .i64 0, .string ⟨#[]⟩, .string ⟨#[]⟩, .int .i64 0, .int .i64 0, .int .i64 0, .pointer (some ⟨x.qu.pb, 0, none⟩)] : List Value).toArray (by kernel_rfl)) hHeld ?_
  (try simp only [Act.put, List.setIfInBounds_toArray, List.set_cons_zero, List.set_cons_succ])
  refine wpAnyH_take (i := 10) (oi := { dst := some 17, op := Go.Op.nilCheck (Go.Operand.tmp 7), type := 0, pos := "waiting.go:50", after := #[{ on := 0, ground := Go.Ground.data }, { on := 0, ground := Go.Ground.phase }, { on := 1, ground := Go.Ground.phase }, { on := 2, ground := Go.Ground.phase }, { on := 3, ground := Go.Ground.phase }, { on := 4, ground := Go.Ground.phase }, { on := 5, ground := Go.Ground.phase }, { on := 6, ground := Go.Ground.phase }, { on := 7, ground := Go.Ground.phase }, { on := 8, ground := Go.Ground.phase }, { on := 9, ground := Go.Ground.phase }], guard := none }) (v := ?_) rfl (by kernel_rfl) (by kernel_rfl) (by kernel_rfl) (fun _ _ _ h => h) (Or.inl ⟨by rfl, ?_⟩) hHeld ?_
  rotate_left
  · intro W hSw
    (try dsimp only at hSw)
    go_simp
    (try with_reducible rfl)
  (try simp only [Act.put, List.setIfInBounds_toArray, List.set_cons_zero, List.set_cons_succ])
  refine wpAnyH_ready (rs := [11]) (by kernel_rfl) (by simp) ?_
  refine AllReadyH.cons (o := { dst := none, op := Go.Op.store 104 (Go.Operand.tmp 17) (Go.Operand.tmp 16), type := 0, pos := "waiting.go:50", after := #[{ on := 10, ground := Go.Ground.data }, { on := 9, ground := Go.Ground.data }, { on := 0, ground := Go.Ground.phase }, { on := 1, ground := Go.Ground.phase }, { on := 2, ground := Go.Ground.phase }, { on := 3, ground := Go.Ground.phase }, { on := 4, ground := Go.Ground.phase }, { on := 5, ground := Go.Ground.phase }, { on := 6, ground := Go.Ground.phase }, { on := 7, ground := Go.Ground.phase }, { on := 8, ground := Go.Ground.phase }, { on := 9, ground := Go.Ground.phase }], guard := none }) rfl (fun K hK => ?_) AllReadyH.nil
  rw [if_pos (by rfl)]
  refine wp_store_mid 104 _ _ rfl P 13 ([.int .i64 x.qu.num, .bool false, .int .i64 0, .string ⟨#[]⟩, .string ⟨#[]⟩, .int .i64 0, .int .i64 0, .int .i64 0, .pointer (some ⟨x.qu.pb, 0, none⟩)] : List Value).toArray rfl rfl TH.out I67.out O67.out ?_
  refine hK.out _ _ p1.out (fun hHeld => ?_)
  clear hK K
  (try simp only [Act.put])
  refine wpAnyH_done (by kernel_rfl) ?_ _
  clear hHeld
  clear p0 p1 TH I67 O67
  generalize w1.drew.setCells P 13 ([.int .i64 x.qu.num, .bool false, .int .i64 0, .string ⟨#[]⟩, .string ⟨#[]⟩, .int .i64 0, .int .i64 0, .int .i64 0, .pointer (some ⟨x.qu.pb, 0, none⟩)] : List Value).toArray.toList = w2 at A3 ⊢
  go_wp2
  go_end0
  exact ⟨rfl, A3.out⟩

theorem px_rng {W : World} {P : Nat} {x : Px} (h : W.heap[P]? = some (.cells x.cells.toArray 111 (0, 0))) : W.rangeAt P 13 [.int .i64 x.qu.num, .bool x.qu.wts, .int .i64 x.qu.ok, .string x.qu.onm, .string x.qu.otx, .int .i64 x.qu.on, .int .i64 x.qu.om, .int .i64 x.qu.left, .pointer (some ⟨x.qu.pb, 0, none⟩)] := by
  intro j u hu
  rw [cell_at h]
  match j, hu with
  | 0, hu => exact hu
  | 1, hu => exact hu
  | 2, hu => exact hu
  | 3, hu => exact hu
  | 4, hu => exact hu
  | 5, hu => exact hu
  | 6, hu => exact hu
  | 7, hu => exact hu
  | 8, hu => exact hu
  | (j + 9), hu => simp at hu
theorem info72 : (Tryz.prog.info? 109).map (·.size) = some 12 := by kernel_rfl
/-- What is asked for is told: nothing is asked any more. -/
def Px.endq (x : Px) : Px := { x with qu := x.qu.ended, who := 0, least := 0, again := 0 }
set_option maxHeartbeats 1600000 in
set_option maxRecDepth 1000000 in
theorem qend62 {P : Nat} {x : Px} {b m n1 n2 : Int} {cs : List Comp} {w : World} (h : All (pxL P x b m n1 n2 ++ cs) w) : Calls Tryz.prog 97 #[.pointer (some ⟨P, 13, none⟩)] w fun e w' => e = .returned (.tuple #[]) ∧ All (pxL P x.endq b m n1 b ++ cs) w' := by
  have C := hid (endQ h)
  clear h
  go_enter Tryz.func97, Tryz.ntmps97
  go_wp2_with fail
  refine C.out.mono ?_
  rintro e w1 ⟨rfl, hw1⟩
  have A1 := hid hw1
  clear hw1 C
  have A2 := A1
  have p0 : Hid ((fun W => W.rangeAt P 13 [.int .i64 x.qu.num, .bool false, .int .i64 0, .string ⟨#[]⟩, .string ⟨#[]⟩, .int .i64 0, .int .i64 0, .int .i64 0, .pointer (some ⟨x.qu.pb, 0, none⟩)]) w1) := hid (px_rng A2.out.1.2.1)
  have A3 : Hid (All (pxL P x.endq b m n1 b ++ cs) (w1.setCells P 13 ([.int .i64 x.qu.num, .bool false, .int .i64 0, .string ⟨#[]⟩, .string ⟨#[]⟩, .int .i64 0, .int .i64 0, .int .i64 0, .pointer (some ⟨x.qu.pb, 0, none⟩), .int .i64 0, .int .i64 0, .int .i64 0] : List Value).toArray.toList)) := hid ((((((((((((A2.out.setBlk 13 (.int .i64 x.qu.num)).setBlk 14 (.bool false)).setBlk 15 (.int .i64 0)).setBlk 16 (.string ⟨#[]⟩)).setBlk 17 (.string ⟨#[]⟩)).setBlk 18 (.int .i64 0)).setBlk 19 (.int .i64 0)).setBlk 20 (.int .i64 0)).setBlk 21 (.pointer (some ⟨x.qu.pb, 0, none⟩))).setBlk 22 (.int .i64 0)).setBlk 23 (.int .i64 0)).setBlk 24 (.int .i64 0))
  have p1 : Hid ((fun W => W.rangeAt P 13 [.int .i64 x.qu.num, .bool false, .int .i64 0, .string ⟨#[]⟩, .string ⟨#[]⟩, .int .i64 0, .int .i64 0, .int .i64 0, .pointer (some ⟨x.qu.pb, 0, none⟩)]) (w1.setCells P 13 ([.int .i64 x.qu.num, .bool false, .int .i64 0, .string ⟨#[]⟩, .string ⟨#[]⟩, .int .i64 0, .int .i64 0, .int .i64 0, .pointer (some ⟨x.qu.pb, 0, none⟩), .int .i64 0, .int .i64 0, .int .i64 0] : List Value).toArray.toList)) := hid (px_rng A3.out.1.2.1)
  have TH : Hid (w1.there P 13 (([.int .i64 x.qu.num, .bool false, .int .i64 0, .string ⟨#[]⟩, .string ⟨#[]⟩, .int .i64 0, .int .i64 0, .int .i64 0, .pointer (some ⟨x.qu.pb, 0, none⟩), .int .i64 0, .int .i64 0, .int .i64 0] : List Value).toArray.size)) := hid (px_there A2.out.1.2.1 13 12 (by omega))
  have I67 : Hid ((Tryz.prog.info? 104).map (·.size) = some ([.int .i64 x.qu.num, .bool false, .int .i64 0, .string ⟨#[]⟩, .string ⟨#[]⟩, .int .i64 0, .int .i64 0, .int .i64 0, .pointer (some ⟨x.qu.pb, 0, none⟩)] : List Value).length) := hid info67
  have I72 : Hid ((Tryz.prog.info? 109).map (·.size) = some (([.int .i64 x.qu.num, .bool false, .int .i64 0, .string ⟨#[]⟩, .string ⟨#[]⟩, .int .i64 0, .int .i64 0, .int .i64 0, .pointer (some ⟨x.qu.pb, 0, none⟩), .int .i64 0, .int .i64 0, .int .i64 0] : List Value).toArray.size)) := hid info72
  have O72 : Hid ((([.int .i64 x.qu.num, .bool false, .int .i64 0, .string ⟨#[]⟩, .string ⟨#[]⟩, .int .i64 0, .int .i64 0, .int .i64 0, .pointer (some ⟨x.qu.pb, 0, none⟩), .int .i64 0, .int .i64 0, .int .i64 0] : List Value).toArray).all (·.oneCell') = true) := hid (by simp [Value.oneCell'])
  go_wp2_with (first | (refine wpList_load_mid rfl 104 _ rfl P 13 rfl [.int .i64 x.qu.num, .bool false, .int .i64 0, .string ⟨#[]⟩, .string ⟨#[]⟩, .int .i64 0, .int .i64 0, .int .i64 0, .pointer (some ⟨x.qu.pb, 0, none⟩)] _ p0.out Tryz.underlying104 rfl I67.out ?_) | (refine wpList_build rfl 109 _ rfl (by kernel_rfl) ?_) | (refine wpList_store_mid rfl 109 _ _ rfl P 13 ([.int .i64 x.qu.num, .bool false, .int .i64 0, .string ⟨#[]⟩, .string ⟨#[]⟩, .int .i64 0, .int .i64 0, .int .i64 0, .pointer (some ⟨x.qu.pb, 0, none⟩), .int .i64 0, .int .i64 0, .int .i64 0] : List Value).toArray rfl (by kernel_rfl) TH.out I72.out O72.out ?_))
  go_end0
  exact ⟨rfl, A3.out⟩
end Go.Proofs.YtdhkdniddjnigaaGreatDoor

namespace Go.Proofs.YtdhkdniddjnigaaGreatDoor
open Go.RowKit
set_option linter.unusedVariables false

set_option maxHeartbeats 3200000 in
set_option maxRecDepth 1000000 in
/-- A message that is wrong, or for another. -/
theorem step_bad {P : Nat} {x : Px} {b m n1 n2 : Int} {cs : List Comp} {w w0 : World} (h : All (pxL P x b m n1 n2 ++ cs) w) (hin : inC w0 ∈ cs) (mm : Ms) (E : Int) (hE : E ≠ 0) (hC : ∀ W, Below w0.heap.size w0 W → Calls Tryz.prog 56 #[.int .i64 x.n, .agg mm.cells.toArray] W fun e w' => e = .returned (.int .i64 E) ∧ Below W.heap.size W w') :
    Calls Tryz.prog 36 #[.pointer (some ⟨P, 0, none⟩), .agg mm.cells.toArray] w fun e w' => e = .returned (.tuple #[.agg ([.bool false, .int .i64 0, .int .i64 0, .int .i64 0, .int .i64 0, .int .i64 0, .slice none 0 0] : List Value).toArray, .bool false]) ∧ All (pxL P x b m n1 n2 ++ cs) w' := by
  obtain ⟨M, hM⟩ : ∃ M, Hid (M = w.heap.size) := ⟨_, hid rfl⟩
  obtain ⟨G, hG⟩ : ∃ G, Hid (G = w.heap.size + 1) := ⟨_, hid rfl⟩
  have A1 : Hid (All (blkC M mm.cells 51 :: blkC G [.bool false, .int .i64 0, .int .i64 0, .int .i64 0, .int .i64 0, .int .i64 0, .slice none 0 0] 97 :: (pxL P x b m n1 n2 ++ cs)) ((w.alloc (.cells mm.cells.toArray 51)).alloc (.cells #[.bool false, .int .i64 0, .int .i64 0, .int .i64 0, .int .i64 0, .int .i64 0, .slice none 0 0] 97))) := hid (by
    have := ((h.addBlk mm.cells 51).addBlk [.bool false, .int .i64 0, .int .i64 0, .int .i64 0, .int .i64 0, .int .i64 0, .slice none 0 0] 97).swap
    simp only [World.size_alloc] at this
    rw [hM.out, hG.out]
    exact this)
  have C35 : Hid (∀ W, All (blkC M mm.cells 51 :: blkC G [.bool false, .int .i64 0, .int .i64 0, .int .i64 0, .int .i64 0, .int .i64 0, .slice none 0 0] 97 :: (pxL P x b m n1 n2 ++ cs)) W → Calls Tryz.prog 56 #[.int .i64 x.n, .agg mm.cells.toArray] W fun e w' => e = .returned (.int .i64 E) ∧ Below W.heap.size W w') := hid (fun W hW => hC W (hW.into (by simp [hin])))
  have SP : Hid (∀ W, All (blkC M mm.cells 51 :: blkC G [.bool false, .int .i64 0, .int .i64 0, .int .i64 0, .int .i64 0, .int .i64 0, .slice none 0 0] 97 :: (pxL P x b m n1 n2 ++ cs)) W → (fun W => W.cell? ⟨P, 0, none⟩ = some (.int .i64 x.n) ∧ W.cell? ⟨P, 1, none⟩ = some (.int .i64 x.id) ∧ W.cell? ⟨M, 2, none⟩ = some (.int .i64 mm.t) ∧ W.rangeAt M 0 mm.cells) W) := hid (fun W hW => ⟨by rw [cell_at hW.tail.tail.px]; rfl, by rw [cell_at hW.tail.tail.px]; rfl, by rw [cell_at hW.1.2.1]; rfl, fun j u hu => by rw [cell_at hW.1.2.1]; simpa using hu⟩)
  have I41 : Hid ((Tryz.prog.info? 51).map (·.size) = some mm.cells.length) := hid (by have := info41 mm; simpa using this)
  have I48 : Hid ((Tryz.prog.info? 97).map (·.size) = some ([.bool false, .int .i64 0, .int .i64 0, .int .i64 0, .int .i64 0, .int .i64 0, .slice none 0 0] : List Value).toArray.size) := hid info48
  have O48 : Hid (([.bool false, .int .i64 0, .int .i64 0, .int .i64 0, .int .i64 0, .int .i64 0, .slice none 0 0] : List Value).toArray.all (·.oneCell') = true) := hid (by simp [Value.oneCell'])
  have Z48 : Hid (([.bool false, .int .i64 0, .int .i64 0, .int .i64 0, .int .i64 0, .int .i64 0, .slice none 0 0] : List Value).toArray.size = ([.bool false, .int .i64 0, .int .i64 0, .int .i64 0, .int .i64 0, .int .i64 0, .slice none 0 0] : List Value).toArray.size) := hid rfl
  have e1 : (E != 0) = true := by simpa using hE
  clear hE
  clear h hin hC
  go_enter Tryz.func36, Tryz.ntmps36
  go_upto_region 1 with fail
  simp only [← hM.out]
  have eG : M + 1 = G := by rw [hM.out, hG.out]
  simp only [eG]
  clear eG
  generalize (w.alloc (.cells mm.cells.toArray 51)).alloc (.cells #[.bool false, .int .i64 0, .int .i64 0, .int .i64 0, .int .i64 0, .int .i64 0, .slice none 0 0] 97) = w1 at A1 ⊢
  have A2 := hid A1.out.drew
  have p0 := hid (SP.out _ A2.out)
  refine wp_region_held_drew (S := (fun W => W.cell? ⟨P, 0, none⟩ = some (.int .i64 x.n) ∧ W.cell? ⟨P, 1, none⟩ = some (.int .i64 x.id) ∧ W.cell? ⟨M, 2, none⟩ = some (.int .i64 mm.t) ∧ W.rangeAt M 0 mm.cells)) (by kernel_rfl) p0.out (fun hHeld => ?_)
  refine wpAnyH_take (i := 0) (oi := { dst := some 6, op := Go.Op.move (Go.Operand.tmp 0), type := 70, pos := "proxy.go:63", after := #[], guard := none }) (v := ?_) rfl (by kernel_rfl) (by kernel_rfl) (by kernel_rfl) (fun _ _ _ h => h) (Or.inl ⟨by rfl, ?_⟩) hHeld ?_
  rotate_left
  · intro W hSw
    (try dsimp only at hSw)
    go_simp
    (try with_reducible rfl)
  (try simp only [Act.put, List.setIfInBounds_toArray, List.set_cons_zero, List.set_cons_succ])
  refine wpAnyH_take (i := 1) (oi := { dst := some 7, op := Go.Op.nilCheck (Go.Operand.tmp 6), type := 0, pos := "proxy.go:63", after := #[{ on := 0, ground := Go.Ground.data }], guard := none }) (v := ?_) rfl (by kernel_rfl) (by kernel_rfl) (by kernel_rfl) (fun _ _ _ h => h) (Or.inl ⟨by rfl, ?_⟩) hHeld ?_
  rotate_left
  · intro W hSw
    (try dsimp only at hSw)
    go_simp
    (try with_reducible rfl)
  (try simp only [Act.put, List.setIfInBounds_toArray, List.set_cons_zero, List.set_cons_succ])
  refine wpAnyH_take (i := 2) (oi := { dst := some 8, op := Go.Op.fieldAddr 111 (Go.Operand.tmp 7) 0, type := 0, pos := "proxy.go:63", after := #[{ on := 1, ground := Go.Ground.data }], guard := none }) (v := ?_) rfl (by kernel_rfl) (by kernel_rfl) (by kernel_rfl) (fun _ _ _ h => h) (Or.inl ⟨by rfl, ?_⟩) hHeld ?_
  rotate_left
  · intro W hSw
    (try dsimp only at hSw)
    go_simp
    (try with_reducible rfl)
  (try simp only [Act.put, List.setIfInBounds_toArray, List.set_cons_zero, List.set_cons_succ])
  refine wpAnyH_take (i := 3) (oi := { dst := some 9, op := Go.Op.load 3 (Go.Operand.tmp 8), type := 3, pos := "proxy.go:63", after := #[{ on := 2, ground := Go.Ground.data }], guard := none }) (v := ?_) rfl (by kernel_rfl) (by kernel_rfl) (by kernel_rfl) (fun _ _ _ h => h) (Or.inl ⟨by rfl, ?_⟩) hHeld ?_
  rotate_left
  · intro W hSw
    (try dsimp only at hSw)
    go_simp
    (try with_reducible rfl)
  (try simp only [Act.put, List.setIfInBounds_toArray, List.set_cons_zero, List.set_cons_succ])
  refine wpAnyH_take (i := 4) (oi := { dst := some 10, op := Go.Op.load 51 (Go.Operand.tmp 3), type := 51, pos := "proxy.go:63", after := #[], guard := none }) (v := .agg mm.cells.toArray) rfl (by kernel_rfl) (by kernel_rfl) (by kernel_rfl) (fun _ _ _ h => h) (yieldsIf_load_mid (by rfl) 51 (.tmp 3) rfl M 0 rfl mm.cells _ (fun W hW => hW.2.2.2) Tryz.underlying51 rfl I41.out) hHeld ?_
  (try simp only [Act.put, List.setIfInBounds_toArray, List.set_cons_zero, List.set_cons_succ])
  refine wpAnyH_ready (rs := [5]) (by kernel_rfl) (by simp) ?_
  refine AllReadyH.cons (o := { dst := some 11, op := Go.Op.call { callee := Go.Callee.value (Go.Operand.func 56), args := #[Go.Operand.tmp 9, Go.Operand.tmp 10], argTypes := #[3, 51] }, type := 35, pos := "proxy.go:63", after := #[{ on := 3, ground := Go.Ground.data }, { on := 4, ground := Go.Ground.data }], guard := none }) rfl (fun K hK => ?_) AllReadyH.nil
  go_simp
  refine (C35.out _ A2.out).mono ?_; rintro e w3 ⟨rfl, BB⟩; have A3 := hid (A2.out.later BB); have p1 := hid (SP.out _ A3.out); clear BB
  refine hK.out _ _ p1.out (fun hHeld => ?_)
  clear hK K
  (try simp only [Act.put, List.setIfInBounds_toArray, List.set_cons_zero, List.set_cons_succ])
  refine wpAnyH_take (i := 6) (oi := { dst := some 12, op := Go.Op.binOp Go.BinOp.neq 35 (Go.Operand.tmp 11) (Go.Operand.const (Go.Value.int Go.IntKind.i64 0)) 35, type := 4, pos := "proxy.go:63", after := #[{ on := 5, ground := Go.Ground.data }], guard := none }) (v := ?_) rfl (by kernel_rfl) (by kernel_rfl) (by kernel_rfl) (fun _ _ _ h => h) (Or.inl ⟨by rfl, ?_⟩) hHeld ?_
  rotate_left
  · intro W hSw
    (try dsimp only at hSw)
    go_simp
    (try with_reducible rfl)
  (try simp only [Act.put, List.setIfInBounds_toArray, List.set_cons_zero, List.set_cons_succ])
  refine wpAnyH_take (i := 7) (oi := { dst := some 13, op := Go.Op.move (Go.Operand.tmp 12), type := 4, pos := "proxy.go:63", after := #[{ on := 6, ground := Go.Ground.data }, { on := 5, ground := Go.Ground.chain }], guard := none }) (v := ?_) rfl (by kernel_rfl) (by kernel_rfl) (by kernel_rfl) (fun _ _ _ h => h) (Or.inl ⟨by rfl, ?_⟩) hHeld ?_
  rotate_left
  · intro W hSw
    (try dsimp only at hSw)
    go_simp
    (try with_reducible rfl)
  (try simp only [Act.put, List.setIfInBounds_toArray, List.set_cons_zero, List.set_cons_succ])
  refine wpAnyH_take (i := 8) (oi := { dst := some 14, op := Go.Op.fieldAddr 51 (Go.Operand.tmp 3) 2, type := 0, pos := "proxy.go:63", after := #[{ on := 7, ground := Go.Ground.guard }], guard := some (7, false) }) (v := undef) rfl (by kernel_rfl) (by kernel_rfl) (by kernel_rfl) (fun _ _ _ h => h) (Or.inr ⟨by rfl, rfl⟩) hHeld ?_
  (try simp only [Act.put, List.setIfInBounds_toArray, List.set_cons_zero, List.set_cons_succ])
  refine wpAnyH_take (i := 9) (oi := { dst := some 15, op := Go.Op.load 3 (Go.Operand.tmp 14), type := 3, pos := "proxy.go:63", after := #[{ on := 8, ground := Go.Ground.data }, { on := 7, ground := Go.Ground.guard }], guard := some (7, false) }) (v := undef) rfl (by kernel_rfl) (by kernel_rfl) (by kernel_rfl) (fun _ _ _ h => h) (Or.inr ⟨by rfl, rfl⟩) hHeld ?_
  (try simp only [Act.put, List.setIfInBounds_toArray, List.set_cons_zero, List.set_cons_succ])
  refine wpAnyH_take (i := 10) (oi := { dst := some 16, op := Go.Op.move (Go.Operand.tmp 0), type := 70, pos := "proxy.go:63", after := #[{ on := 7, ground := Go.Ground.guard }], guard := some (7, false) }) (v := undef) rfl (by kernel_rfl) (by kernel_rfl) (by kernel_rfl) (fun _ _ _ h => h) (Or.inr ⟨by rfl, rfl⟩) hHeld ?_
  (try simp only [Act.put, List.setIfInBounds_toArray, List.set_cons_zero, List.set_cons_succ])
  refine wpAnyH_take (i := 11) (oi := { dst := some 17, op := Go.Op.nilCheck (Go.Operand.tmp 16), type := 0, pos := "proxy.go:63", after := #[{ on := 10, ground := Go.Ground.data }, { on := 7, ground := Go.Ground.guard }], guard := some (7, false) }) (v := undef) rfl (by kernel_rfl) (by kernel_rfl) (by kernel_rfl) (fun _ _ _ h => h) (Or.inr ⟨by rfl, rfl⟩) hHeld ?_
  (try simp only [Act.put, List.setIfInBounds_toArray, List.set_cons_zero, List.set_cons_succ])
  refine wpAnyH_take (i := 12) (oi := { dst := some 18, op := Go.Op.fieldAddr 111 (Go.Operand.tmp 17) 1, type := 0, pos := "proxy.go:63", after := #[{ on := 11, ground := Go.Ground.data }, { on := 7, ground := Go.Ground.guard }], guard := some (7, false) }) (v := undef) rfl (by kernel_rfl) (by kernel_rfl) (by kernel_rfl) (fun _ _ _ h => h) (Or.inr ⟨by rfl, rfl⟩) hHeld ?_
  (try simp only [Act.put, List.setIfInBounds_toArray, List.set_cons_zero, List.set_cons_succ])
  refine wpAnyH_take (i := 13) (oi := { dst := some 19, op := Go.Op.load 3 (Go.Operand.tmp 18), type := 3, pos := "proxy.go:63", after := #[{ on := 12, ground := Go.Ground.data }, { on := 7, ground := Go.Ground.guard }], guard := some (7, false) }) (v := undef) rfl (by kernel_rfl) (by kernel_rfl) (by kernel_rfl) (fun _ _ _ h => h) (Or.inr ⟨by rfl, rfl⟩) hHeld ?_
  (try simp only [Act.put, List.setIfInBounds_toArray, List.set_cons_zero, List.set_cons_succ])
  refine wpAnyH_take (i := 14) (oi := { dst := some 20, op := Go.Op.binOp Go.BinOp.neq 3 (Go.Operand.tmp 15) (Go.Operand.tmp 19) 3, type := 4, pos := "proxy.go:63", after := #[{ on := 9, ground := Go.Ground.data }, { on := 13, ground := Go.Ground.data }, { on := 7, ground := Go.Ground.guard }], guard := some (7, false) }) (v := undef) rfl (by kernel_rfl) (by kernel_rfl) (by kernel_rfl) (fun _ _ _ h => h) (Or.inr ⟨by rfl, rfl⟩) hHeld ?_
  (try simp only [Act.put, List.setIfInBounds_toArray, List.set_cons_zero, List.set_cons_succ])
  refine wpAnyH_take (i := 15) (oi := { dst := some 21, op := Go.Op.pick (Go.Operand.tmp 13) (Go.Operand.const (Go.Value.bool true)) (Go.Operand.tmp 20), type := 4, pos := "proxy.go:63", after := #[{ on := 7, ground := Go.Ground.data }, { on := 14, ground := Go.Ground.data }], guard := none }) (v := ?_) rfl (by kernel_rfl) (by kernel_rfl) (by kernel_rfl) (fun _ _ _ h => h) (Or.inl ⟨by rfl, ?_⟩) hHeld ?_
  rotate_left
  · intro W hSw
    (try dsimp only at hSw)
    go_simp
    (try with_reducible rfl)
  (try simp only [Act.put, List.setIfInBounds_toArray, List.set_cons_zero, List.set_cons_succ])
  refine wpAnyH_done (by kernel_rfl) ?_ _
  clear hHeld
  clear p0 p1 A1 A2 C35 SP
  have hg6 := hid A3.out.tail.1.2.1
  have A7 := hid (A3.out.swap.setRow (vs' := [.bool false, .int .i64 0, .int .i64 0, .int .i64 0, .int .i64 0, .int .i64 0, .slice none 0 0]))
  go_wp2_with (first | (refine wpList_build rfl 97 _ rfl (by kernel_rfl) ?_) | (refine wpList_store_row rfl 97 _ _ rfl G ([.bool false, .int .i64 0, .int .i64 0, .int .i64 0, .int .i64 0, .int .i64 0, .slice none 0 0] : List Value).toArray rfl (by kernel_rfl) 97 _ hg6.out I48.out Z48.out O48.out ?_))
  refine bodyPost_ret (v := .tuple #[.agg ([.bool false, .int .i64 0, .int .i64 0, .int .i64 0, .int .i64 0, .int .i64 0, .slice none 0 0] : List Value).toArray, .bool false]) (res15 (b := G) rfl rfl A7.out.1.2.1 I48.out) rfl ?_
  exact ⟨rfl, A7.out.tail.tail⟩
set_option maxHeartbeats 3200000 in
set_option maxRecDepth 1000000 in
/-- A message that is wrong, or for another. -/
theorem step_to {P : Nat} {x : Px} {b m n1 n2 : Int} {cs : List Comp} {w w0 : World} (h : All (pxL P x b m n1 n2 ++ cs) w) (hin : inC w0 ∈ cs) (mm : Ms) (ht : mm.t ≠ x.id) (hC : ∀ W, Below w0.heap.size w0 W → Calls Tryz.prog 56 #[.int .i64 x.n, .agg mm.cells.toArray] W fun e w' => e = .returned (.int .i64 0) ∧ Below W.heap.size W w') :
    Calls Tryz.prog 36 #[.pointer (some ⟨P, 0, none⟩), .agg mm.cells.toArray] w fun e w' => e = .returned (.tuple #[.agg ([.bool false, .int .i64 0, .int .i64 0, .int .i64 0, .int .i64 0, .int .i64 0, .slice none 0 0] : List Value).toArray, .bool false]) ∧ All (pxL P x b m n1 n2 ++ cs) w' := by
  obtain ⟨M, hM⟩ : ∃ M, Hid (M = w.heap.size) := ⟨_, hid rfl⟩
  obtain ⟨G, hG⟩ : ∃ G, Hid (G = w.heap.size + 1) := ⟨_, hid rfl⟩
  have A1 : Hid (All (blkC M mm.cells 51 :: blkC G [.bool false, .int .i64 0, .int .i64 0, .int .i64 0, .int .i64 0, .int .i64 0, .slice none 0 0] 97 :: (pxL P x b m n1 n2 ++ cs)) ((w.alloc (.cells mm.cells.toArray 51)).alloc (.cells #[.bool false, .int .i64 0, .int .i64 0, .int .i64 0, .int .i64 0, .int .i64 0, .slice none 0 0] 97))) := hid (by
    have := ((h.addBlk mm.cells 51).addBlk [.bool false, .int .i64 0, .int .i64 0, .int .i64 0, .int .i64 0, .int .i64 0, .slice none 0 0] 97).swap
    simp only [World.size_alloc] at this
    rw [hM.out, hG.out]
    exact this)
  have C35 : Hid (∀ W, All (blkC M mm.cells 51 :: blkC G [.bool false, .int .i64 0, .int .i64 0, .int .i64 0, .int .i64 0, .int .i64 0, .slice none 0 0] 97 :: (pxL P x b m n1 n2 ++ cs)) W → Calls Tryz.prog 56 #[.int .i64 x.n, .agg mm.cells.toArray] W fun e w' => e = .returned (.int .i64 0) ∧ Below W.heap.size W w') := hid (fun W hW => hC W (hW.into (by simp [hin])))
  have SP : Hid (∀ W, All (blkC M mm.cells 51 :: blkC G [.bool false, .int .i64 0, .int .i64 0, .int .i64 0, .int .i64 0, .int .i64 0, .slice none 0 0] 97 :: (pxL P x b m n1 n2 ++ cs)) W → (fun W => W.cell? ⟨P, 0, none⟩ = some (.int .i64 x.n) ∧ W.cell? ⟨P, 1, none⟩ = some (.int .i64 x.id) ∧ W.cell? ⟨M, 2, none⟩ = some (.int .i64 mm.t) ∧ W.rangeAt M 0 mm.cells) W) := hid (fun W hW => ⟨by rw [cell_at hW.tail.tail.px]; rfl, by rw [cell_at hW.tail.tail.px]; rfl, by rw [cell_at hW.1.2.1]; rfl, fun j u hu => by rw [cell_at hW.1.2.1]; simpa using hu⟩)
  have I41 : Hid ((Tryz.prog.info? 51).map (·.size) = some mm.cells.length) := hid (by have := info41 mm; simpa using this)
  have I48 : Hid ((Tryz.prog.info? 97).map (·.size) = some ([.bool false, .int .i64 0, .int .i64 0, .int .i64 0, .int .i64 0, .int .i64 0, .slice none 0 0] : List Value).toArray.size) := hid info48
  have O48 : Hid (([.bool false, .int .i64 0, .int .i64 0, .int .i64 0, .int .i64 0, .int .i64 0, .slice none 0 0] : List Value).toArray.all (·.oneCell') = true) := hid (by simp [Value.oneCell'])
  have Z48 : Hid (([.bool false, .int .i64 0, .int .i64 0, .int .i64 0, .int .i64 0, .int .i64 0, .slice none 0 0] : List Value).toArray.size = ([.bool false, .int .i64 0, .int .i64 0, .int .i64 0, .int .i64 0, .int .i64 0, .slice none 0 0] : List Value).toArray.size) := hid rfl
  have e1 : (mm.t != x.id) = true := by simpa using ht
  clear ht
  clear h hin hC
  go_enter Tryz.func36, Tryz.ntmps36
  go_upto_region 1 with fail
  simp only [← hM.out]
  have eG : M + 1 = G := by rw [hM.out, hG.out]
  simp only [eG]
  clear eG
  generalize (w.alloc (.cells mm.cells.toArray 51)).alloc (.cells #[.bool false, .int .i64 0, .int .i64 0, .int .i64 0, .int .i64 0, .int .i64 0, .slice none 0 0] 97) = w1 at A1 ⊢
  have A2 := hid A1.out.drew
  have p0 := hid (SP.out _ A2.out)
  refine wp_region_held_drew (S := (fun W => W.cell? ⟨P, 0, none⟩ = some (.int .i64 x.n) ∧ W.cell? ⟨P, 1, none⟩ = some (.int .i64 x.id) ∧ W.cell? ⟨M, 2, none⟩ = some (.int .i64 mm.t) ∧ W.rangeAt M 0 mm.cells)) (by kernel_rfl) p0.out (fun hHeld => ?_)
  refine wpAnyH_take (i := 0) (oi := { dst := some 6, op := Go.Op.move (Go.Operand.tmp 0), type := 70, pos := "proxy.go:63", after := #[], guard := none }) (v := ?_) rfl (by kernel_rfl) (by kernel_rfl) (by kernel_rfl) (fun _ _ _ h => h) (Or.inl ⟨by rfl, ?_⟩) hHeld ?_
  rotate_left
  · intro W hSw
    (try dsimp only at hSw)
    go_simp
    (try with_reducible rfl)
  (try simp only [Act.put, List.setIfInBounds_toArray, List.set_cons_zero, List.set_cons_succ])
  refine wpAnyH_take (i := 1) (oi := { dst := some 7, op := Go.Op.nilCheck (Go.Operand.tmp 6), type := 0, pos := "proxy.go:63", after := #[{ on := 0, ground := Go.Ground.data }], guard := none }) (v := ?_) rfl (by kernel_rfl) (by kernel_rfl) (by kernel_rfl) (fun _ _ _ h => h) (Or.inl ⟨by rfl, ?_⟩) hHeld ?_
  rotate_left
  · intro W hSw
    (try dsimp only at hSw)
    go_simp
    (try with_reducible rfl)
  (try simp only [Act.put, List.setIfInBounds_toArray, List.set_cons_zero, List.set_cons_succ])
  refine wpAnyH_take (i := 2) (oi := { dst := some 8, op := Go.Op.fieldAddr 111 (Go.Operand.tmp 7) 0, type := 0, pos := "proxy.go:63", after := #[{ on := 1, ground := Go.Ground.data }], guard := none }) (v := ?_) rfl (by kernel_rfl) (by kernel_rfl) (by kernel_rfl) (fun _ _ _ h => h) (Or.inl ⟨by rfl, ?_⟩) hHeld ?_
  rotate_left
  · intro W hSw
    (try dsimp only at hSw)
    go_simp
    (try with_reducible rfl)
  (try simp only [Act.put, List.setIfInBounds_toArray, List.set_cons_zero, List.set_cons_succ])
  refine wpAnyH_take (i := 3) (oi := { dst := some 9, op := Go.Op.load 3 (Go.Operand.tmp 8), type := 3, pos := "proxy.go:63", after := #[{ on := 2, ground := Go.Ground.data }], guard := none }) (v := ?_) rfl (by kernel_rfl) (by kernel_rfl) (by kernel_rfl) (fun _ _ _ h => h) (Or.inl ⟨by rfl, ?_⟩) hHeld ?_
  rotate_left
  · intro W hSw
    (try dsimp only at hSw)
    go_simp
    (try with_reducible rfl)
  (try simp only [Act.put, List.setIfInBounds_toArray, List.set_cons_zero, List.set_cons_succ])
  refine wpAnyH_take (i := 4) (oi := { dst := some 10, op := Go.Op.load 51 (Go.Operand.tmp 3), type := 51, pos := "proxy.go:63", after := #[], guard := none }) (v := .agg mm.cells.toArray) rfl (by kernel_rfl) (by kernel_rfl) (by kernel_rfl) (fun _ _ _ h => h) (yieldsIf_load_mid (by rfl) 51 (.tmp 3) rfl M 0 rfl mm.cells _ (fun W hW => hW.2.2.2) Tryz.underlying51 rfl I41.out) hHeld ?_
  (try simp only [Act.put, List.setIfInBounds_toArray, List.set_cons_zero, List.set_cons_succ])
  refine wpAnyH_ready (rs := [5]) (by kernel_rfl) (by simp) ?_
  refine AllReadyH.cons (o := { dst := some 11, op := Go.Op.call { callee := Go.Callee.value (Go.Operand.func 56), args := #[Go.Operand.tmp 9, Go.Operand.tmp 10], argTypes := #[3, 51] }, type := 35, pos := "proxy.go:63", after := #[{ on := 3, ground := Go.Ground.data }, { on := 4, ground := Go.Ground.data }], guard := none }) rfl (fun K hK => ?_) AllReadyH.nil
  go_simp
  refine (C35.out _ A2.out).mono ?_; rintro e w3 ⟨rfl, BB⟩; have A3 := hid (A2.out.later BB); have p1 := hid (SP.out _ A3.out); clear BB
  refine hK.out _ _ p1.out (fun hHeld => ?_)
  clear hK K
  (try simp only [Act.put, List.setIfInBounds_toArray, List.set_cons_zero, List.set_cons_succ])
  refine wpAnyH_take (i := 6) (oi := { dst := some 12, op := Go.Op.binOp Go.BinOp.neq 35 (Go.Operand.tmp 11) (Go.Operand.const (Go.Value.int Go.IntKind.i64 0)) 35, type := 4, pos := "proxy.go:63", after := #[{ on := 5, ground := Go.Ground.data }], guard := none }) (v := ?_) rfl (by kernel_rfl) (by kernel_rfl) (by kernel_rfl) (fun _ _ _ h => h) (Or.inl ⟨by rfl, ?_⟩) hHeld ?_
  rotate_left
  · intro W hSw
    (try dsimp only at hSw)
    go_simp
    (try with_reducible rfl)
  (try simp only [Act.put, List.setIfInBounds_toArray, List.set_cons_zero, List.set_cons_succ])
  refine wpAnyH_take (i := 7) (oi := { dst := some 13, op := Go.Op.move (Go.Operand.tmp 12), type := 4, pos := "proxy.go:63", after := #[{ on := 6, ground := Go.Ground.data }, { on := 5, ground := Go.Ground.chain }], guard := none }) (v := ?_) rfl (by kernel_rfl) (by kernel_rfl) (by kernel_rfl) (fun _ _ _ h => h) (Or.inl ⟨by rfl, ?_⟩) hHeld ?_
  rotate_left
  · intro W hSw
    (try dsimp only at hSw)
    go_simp
    (try with_reducible rfl)
  (try simp only [Act.put, List.setIfInBounds_toArray, List.set_cons_zero, List.set_cons_succ])
  refine wpAnyH_take (i := 8) (oi := { dst := some 14, op := Go.Op.fieldAddr 51 (Go.Operand.tmp 3) 2, type := 0, pos := "proxy.go:63", after := #[{ on := 7, ground := Go.Ground.guard }], guard := some (7, false) }) (v := ?_) rfl (by kernel_rfl) (by kernel_rfl) (by kernel_rfl) (fun _ _ _ h => h) (Or.inl ⟨by rfl, ?_⟩) hHeld ?_
  rotate_left
  · intro W hSw
    (try dsimp only at hSw)
    go_simp
    (try with_reducible rfl)
  (try simp only [Act.put, List.setIfInBounds_toArray, List.set_cons_zero, List.set_cons_succ])
  refine wpAnyH_take (i := 9) (oi := { dst := some 15, op := Go.Op.load 3 (Go.Operand.tmp 14), type := 3, pos := "proxy.go:63", after := #[{ on := 8, ground := Go.Ground.data }, { on := 7, ground := Go.Ground.guard }], guard := some (7, false) }) (v := ?_) rfl (by kernel_rfl) (by kernel_rfl) (by kernel_rfl) (fun _ _ _ h => h) (Or.inl ⟨by rfl, ?_⟩) hHeld ?_
  rotate_left
  · intro W hSw
    (try dsimp only at hSw)
    go_simp
    (try with_reducible rfl)
  (try simp only [Act.put, List.setIfInBounds_toArray, List.set_cons_zero, List.set_cons_succ])
  refine wpAnyH_take (i := 10) (oi := { dst := some 16, op := Go.Op.move (Go.Operand.tmp 0), type := 70, pos := "proxy.go:63", after := #[{ on := 7, ground := Go.Ground.guard }], guard := some (7, false) }) (v := ?_) rfl (by kernel_rfl) (by kernel_rfl) (by kernel_rfl) (fun _ _ _ h => h) (Or.inl ⟨by rfl, ?_⟩) hHeld ?_
  rotate_left
  · intro W hSw
    (try dsimp only at hSw)
    go_simp
    (try with_reducible rfl)
  (try simp only [Act.put, List.setIfInBounds_toArray, List.set_cons_zero, List.set_cons_succ])
  refine wpAnyH_take (i := 11) (oi := { dst := some 17, op := Go.Op.nilCheck (Go.Operand.tmp 16), type := 0, pos := "proxy.go:63", after := #[{ on := 10, ground := Go.Ground.data }, { on := 7, ground := Go.Ground.guard }], guard := some (7, false) }) (v := ?_) rfl (by kernel_rfl) (by kernel_rfl) (by kernel_rfl) (fun _ _ _ h => h) (Or.inl ⟨by rfl, ?_⟩) hHeld ?_
  rotate_left
  · intro W hSw
    (try dsimp only at hSw)
    go_simp
    (try with_reducible rfl)
  (try simp only [Act.put, List.setIfInBounds_toArray, List.set_cons_zero, List.set_cons_succ])
  refine wpAnyH_take (i := 12) (oi := { dst := some 18, op := Go.Op.fieldAddr 111 (Go.Operand.tmp 17) 1, type := 0, pos := "proxy.go:63", after := #[{ on := 11, ground := Go.Ground.data }, { on := 7, ground := Go.Ground.guard }], guard := some (7, false) }) (v := ?_) rfl (by kernel_rfl) (by kernel_rfl) (by kernel_rfl) (fun _ _ _ h => h) (Or.inl ⟨by rfl, ?_⟩) hHeld ?_
  rotate_left
  · intro W hSw
    (try dsimp only at hSw)
    go_simp
    (try with_reducible rfl)
  (try simp only [Act.put, List.setIfInBounds_toArray, List.set_cons_zero, List.set_cons_succ])
  refine wpAnyH_take (i := 13) (oi := { dst := some 19, op := Go.Op.load 3 (Go.Operand.tmp 18), type := 3, pos := "proxy.go:63", after := #[{ on := 12, ground := Go.Ground.data }, { on := 7, ground := Go.Ground.guard }], guard := some (7, false) }) (v := ?_) rfl (by kernel_rfl) (by kernel_rfl) (by kernel_rfl) (fun _ _ _ h => h) (Or.inl ⟨by rfl, ?_⟩) hHeld ?_
  rotate_left
  · intro W hSw
    (try dsimp only at hSw)
    go_simp
    (try with_reducible rfl)
  (try simp only [Act.put, List.setIfInBounds_toArray, List.set_cons_zero, List.set_cons_succ])
  refine wpAnyH_take (i := 14) (oi := { dst := some 20, op := Go.Op.binOp Go.BinOp.neq 3 (Go.Operand.tmp 15) (Go.Operand.tmp 19) 3, type := 4, pos := "proxy.go:63", after := #[{ on := 9, ground := Go.Ground.data }, { on := 13, ground := Go.Ground.data }, { on := 7, ground := Go.Ground.guard }], guard := some (7, false) }) (v := ?_) rfl (by kernel_rfl) (by kernel_rfl) (by kernel_rfl) (fun _ _ _ h => h) (Or.inl ⟨by rfl, ?_⟩) hHeld ?_
  rotate_left
  · intro W hSw
    (try dsimp only at hSw)
    go_simp
    (try with_reducible rfl)
  (try simp only [Act.put, List.setIfInBounds_toArray, List.set_cons_zero, List.set_cons_succ])
  refine wpAnyH_take (i := 15) (oi := { dst := some 21, op := Go.Op.pick (Go.Operand.tmp 13) (Go.Operand.const (Go.Value.bool true)) (Go.Operand.tmp 20), type := 4, pos := "proxy.go:63", after := #[{ on := 7, ground := Go.Ground.data }, { on := 14, ground := Go.Ground.data }], guard := none }) (v := ?_) rfl (by kernel_rfl) (by kernel_rfl) (by kernel_rfl) (fun _ _ _ h => h) (Or.inl ⟨by rfl, ?_⟩) hHeld ?_
  rotate_left
  · intro W hSw
    (try dsimp only at hSw)
    go_simp
    (try with_reducible rfl)
  (try simp only [Act.put, List.setIfInBounds_toArray, List.set_cons_zero, List.set_cons_succ])
  refine wpAnyH_done (by kernel_rfl) ?_ _
  clear hHeld
  clear p0 p1 A1 A2 C35 SP
  have hg6 := hid A3.out.tail.1.2.1
  have A7 := hid (A3.out.swap.setRow (vs' := [.bool false, .int .i64 0, .int .i64 0, .int .i64 0, .int .i64 0, .int .i64 0, .slice none 0 0]))
  go_wp2_with (first | (refine wpList_build rfl 97 _ rfl (by kernel_rfl) ?_) | (refine wpList_store_row rfl 97 _ _ rfl G ([.bool false, .int .i64 0, .int .i64 0, .int .i64 0, .int .i64 0, .int .i64 0, .slice none 0 0] : List Value).toArray rfl (by kernel_rfl) 97 _ hg6.out I48.out Z48.out O48.out ?_))
  refine bodyPost_ret (v := .tuple #[.agg ([.bool false, .int .i64 0, .int .i64 0, .int .i64 0, .int .i64 0, .int .i64 0, .slice none 0 0] : List Value).toArray, .bool false]) (res15 (b := G) rfl rfl A7.out.1.2.1 I48.out) rfl ?_
  exact ⟨rfl, A7.out.tail.tail⟩
end Go.Proofs.YtdhkdniddjnigaaGreatDoor

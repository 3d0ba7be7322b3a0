import Derived.Test.YtdhkdniddjnigaaGreatDoorPx1
import Derived.Great.BuildSlice
import Derived.Deep.MidRow
namespace Go.Proofs.YtdhkdniddjnigaaGreatDoor
open Go.RowKit
set_option linter.unusedVariables false

/-- What waits. -/
structure Wt where
  num : Int
  wts : Bool
  ok : Int
  onm : ByteArray
  otx : ByteArray
  on : Int
  om : Int
  left : Int
  pb : Nat
/-- A client. -/
structure Px where
  n : Int
  id : Int
  view : Int
  seen : Int
  rq : Wt
  qu : Wt
  who : Int
  least : Int
  again : Int
def Px.cells (x : Px) : List Value := [.int .i64 x.n, .int .i64 x.id, .int .i64 x.view, .int .i64 x.seen, .int .i64 x.rq.num, .bool x.rq.wts, .int .i64 x.rq.ok, .string x.rq.onm, .string x.rq.otx, .int .i64 x.rq.on, .int .i64 x.rq.om, .int .i64 x.rq.left, .pointer (some ⟨x.rq.pb, 0, none⟩), .int .i64 x.qu.num, .bool x.qu.wts, .int .i64 x.qu.ok, .string x.qu.onm, .string x.qu.otx, .int .i64 x.qu.on, .int .i64 x.qu.om, .int .i64 x.qu.left, .pointer (some ⟨x.qu.pb, 0, none⟩), .int .i64 x.who, .int .i64 x.least, .int .i64 x.again]
/-- A backoff. -/
abbrev boC (p : Nat) (b m n : Int) : Comp := blkC p [.int .i64 b, .int .i64 m, .int .i64 n] 170
theorem All.bo {p : Nat} {b m n : Int} {cs : List Comp} {w w' : World} {n' : Int} (h : All (boC p b m n :: cs) w) (h1 : BoB w' p b m n') (h2 : Fr [p] w w') : All (boC p b m n' :: cs) w' := by
  refine h.turn h2 (blkC_good _ _ _) h1 (fun k hk => Or.inl hk) (fun k hk => ?_)
  have : k = p := by simpa [blkC] using hk
  subst this
  exact Nat.lt_of_lt_of_le (h.1.2.2 k (by simp [blkC])) h2.size
theorem next53 {p : Nat} {b m n : Int} {cs : List Comp} {w : World} (h : All (boC p b m n :: cs) w) (h1 : 1 ≤ n) (h2 : n ≤ m) (h3 : m ≤ 1024) : Calls Tryz.prog 118 #[.pointer (some ⟨p, 0, none⟩)] w fun e w' => e = .returned (.int .i64 n) ∧ All (boC p b m (min (2 * n) m) :: cs) w' :=
  (Next_any h.1.2.1 h1 h2 h3).mono fun e w' ⟨a, b, c⟩ => ⟨a, h.bo b c⟩
theorem reset84 {p : Nat} {b m n : Int} {cs : List Comp} {w : World} (h : All (boC p b m n :: cs) w) : Calls Tryz.prog 129 #[.pointer (some ⟨p, 0, none⟩)] w fun e w' => e = .returned (.tuple #[]) ∧ All (boC p b m b :: cs) w' :=
  (Reset_any h.1.2.1).mono fun e w' ⟨a, b, c⟩ => ⟨a, h.bo b c⟩
/-- A client, and its two patiences. -/
def pxL (P : Nat) (x : Px) (b m n1 n2 : Int) : List Comp := [blkC P x.cells 111, boC x.rq.pb b m n1, boC x.qu.pb b m n2]
theorem All.px {P : Nat} {x : Px} {b m n1 n2 : Int} {cs : List Comp} {w : World} (h : All (pxL P x b m n1 n2 ++ cs) w) : w.heap[P]? = some (.cells x.cells.toArray 111 (0, 0)) := h.1.2.1

theorem awaitsR {P : Nat} {x : Px} {b m n1 n2 : Int} {cs : List Comp} {w : World} (h : All (pxL P x b m n1 n2 ++ cs) w) (k : Int) : Calls Tryz.prog 57 #[.pointer (some ⟨P, 4, none⟩), .int .i64 k] w fun e w' => e = .returned (.bool (x.rq.wts && (x.rq.num == k))) ∧ w' = w := by
  have c4 : w.cell? ⟨P, 4, none⟩ = some (.int .i64 x.rq.num) := by rw [cell_at h.px]; rfl
  have c5 : w.cell? ⟨P, 5, none⟩ = some (.bool x.rq.wts) := by rw [cell_at h.px]; rfl
  clear h
  obtain ⟨b1, hb1⟩ : ∃ b1, Hid (b1 = x.rq.wts) := ⟨_, hid rfl⟩
  rw [← hb1.out] at c5 ⊢
  clear hb1
  cases b1
  all_goals
    go_enter Tryz.func57, Tryz.ntmps57
    go_wp2
    go_ret
    exact ⟨rfl, rfl⟩

theorem tickR_no {P : Nat} {x : Px} {b m n1 n2 : Int} {cs : List Comp} {w : World} (h : All (pxL P x b m n1 n2 ++ cs) w) (hw : x.rq.wts = false) : Calls Tryz.prog 77 #[.pointer (some ⟨P, 4, none⟩)] w fun e w' => e = .returned (.bool false) ∧ w' = w := by
  have c5 : w.cell? ⟨P, 5, none⟩ = some (.bool x.rq.wts) := by rw [cell_at h.px]; rfl
  rw [hw] at c5
  clear h hw
  go_enter Tryz.func77, Tryz.ntmps77
  go_wp2
  go_ret
  exact ⟨rfl, rfl⟩
theorem tickR_less {P : Nat} {x : Px} {b m n1 n2 : Int} {cs : List Comp} {w : World} (h : All (pxL P x b m n1 n2 ++ cs) w) (hw : x.rq.wts = true) (hl : 1 < x.rq.left) (hl2 : x.rq.left ≤ 1024) : Calls Tryz.prog 77 #[.pointer (some ⟨P, 4, none⟩)] w fun e w' => e = .returned (.bool false) ∧ All (pxL P { x with rq := { x.rq with left := x.rq.left - 1 } } b m n1 n2 ++ cs) w' := by
  have c5 : w.cell? ⟨P, 5, none⟩ = some (.bool x.rq.wts) := by rw [cell_at h.px]; rfl
  have c11 : w.cell? ⟨P, 11, none⟩ = some (.int .i64 x.rq.left) := by rw [cell_at h.px]; rfl
  rw [hw] at c5
  have f7 := free_at h.px 11
  have A := hid (h.setBlk 11 (.int .i64 (x.rq.left - 1)))
  have e1 : IntKind.i64.wrap (x.rq.left - 1) = x.rq.left - 1 := by rw [IntKind.wrap_i64]; omega
  have e2 : decide (1 < x.rq.left) = true := by simpa using hl
  have c9 : (w.setCell ⟨P, 11, none⟩ (.int .i64 (x.rq.left - 1))).cell? ⟨P, 11, none⟩ = some (.int .i64 (x.rq.left - 1)) := by rw [cell_at A.out.1.2.1]; rfl
  clear h hw hl2
  go_enter Tryz.func77, Tryz.ntmps77
  go_wp2
  go_ret
  exact ⟨rfl, A.out⟩
theorem tickR_yes {P : Nat} {x : Px} {b m n1 n2 : Int} {cs : List Comp} {w : World} (h : All (pxL P x b m n1 n2 ++ cs) w) (hw : x.rq.wts = true) (hl : x.rq.left = 1) (h1 : 1 ≤ n1) (h2 : n1 ≤ m) (h3 : m ≤ 1024) : Calls Tryz.prog 77 #[.pointer (some ⟨P, 4, none⟩)] w fun e w' => e = .returned (.bool true) ∧ All (pxL P { x with rq := { x.rq with left := n1 } } b m (min (2 * n1) m) n2 ++ cs) w' := by
  have c5 : w.cell? ⟨P, 5, none⟩ = some (.bool x.rq.wts) := by rw [cell_at h.px]; rfl
  have c11 : w.cell? ⟨P, 11, none⟩ = some (.int .i64 x.rq.left) := by rw [cell_at h.px]; rfl
  have c12 : w.cell? ⟨P, 12, none⟩ = some (.pointer (some ⟨x.rq.pb, 0, none⟩)) := by rw [cell_at h.px]; rfl
  rw [hw] at c5
  rw [hl] at c11
  have f7 := free_at h.px 11
  have A := h.setBlk 11 (.int .i64 0)
  have c9 : (w.setCell ⟨P, 11, none⟩ (.int .i64 0)).cell? ⟨P, 11, none⟩ = some (.int .i64 0) := by rw [cell_at A.1.2.1]; rfl
  have c10 : (w.setCell ⟨P, 11, none⟩ (.int .i64 0)).cell? ⟨P, 12, none⟩ = some (.pointer (some ⟨x.rq.pb, 0, none⟩)) := by rw [cell_at A.1.2.1]; rfl
  have f10 := free_at A.1.2.1 11
  have N := hid (next53 A.swap h1 h2 h3)
  have c9 := hid c9
  have c10 := hid c10
  have f10 := hid f10
  clear h hw hl h1 h2 h3 A
  go_enter Tryz.func77, Tryz.ntmps77
  go_upto_region 4 with fail
  generalize w.setCell ⟨P, 11, none⟩ (.int .i64 0) = w1 at c9 c10 f10 N ⊢
  clear c5 c11 c12 f7
  have c9 := c9.out
  have c10 := c10.out
  have f10 := f10.out
  go_wp2_with fail
  refine N.out.mono ?_
  rintro e w2 ⟨rfl, A2⟩
  have A3 := A2.swap
  have d7 : w2.cell? ⟨P, 11, none⟩ = some (.int .i64 0) := by rw [cell_at A3.1.2.1]; rfl
  have g7 := free_at A3.1.2.1 11
  have A4 := hid (A3.setBlk 11 (.int .i64 n1))
  clear A2 A3 N c9 c10 f10
  go_wp2
  go_ret
  exact ⟨rfl, A4.out⟩

theorem awaitsQ {P : Nat} {x : Px} {b m n1 n2 : Int} {cs : List Comp} {w : World} (h : All (pxL P x b m n1 n2 ++ cs) w) (k : Int) : Calls Tryz.prog 57 #[.pointer (some ⟨P, 13, none⟩), .int .i64 k] w fun e w' => e = .returned (.bool (x.qu.wts && (x.qu.num == k))) ∧ w' = w := by
  have c13 : w.cell? ⟨P, 13, none⟩ = some (.int .i64 x.qu.num) := by rw [cell_at h.px]; rfl
  have c14 : w.cell? ⟨P, 14, none⟩ = some (.bool x.qu.wts) := by rw [cell_at h.px]; rfl
  clear h
  obtain ⟨b1, hb1⟩ : ∃ b1, Hid (b1 = x.qu.wts) := ⟨_, hid rfl⟩
  rw [← hb1.out] at c14 ⊢
  clear hb1
  cases b1
  all_goals
    go_enter Tryz.func57, Tryz.ntmps57
    go_wp2
    go_ret
    exact ⟨rfl, rfl⟩

theorem tickQ_no {P : Nat} {x : Px} {b m n1 n2 : Int} {cs : List Comp} {w : World} (h : All (pxL P x b m n1 n2 ++ cs) w) (hw : x.qu.wts = false) : Calls Tryz.prog 77 #[.pointer (some ⟨P, 13, none⟩)] w fun e w' => e = .returned (.bool false) ∧ w' = w := by
  have c14 : w.cell? ⟨P, 14, none⟩ = some (.bool x.qu.wts) := by rw [cell_at h.px]; rfl
  rw [hw] at c14
  clear h hw
  go_enter Tryz.func77, Tryz.ntmps77
  go_wp2
  go_ret
  exact ⟨rfl, rfl⟩
theorem tickQ_less {P : Nat} {x : Px} {b m n1 n2 : Int} {cs : List Comp} {w : World} (h : All (pxL P x b m n1 n2 ++ cs) w) (hw : x.qu.wts = true) (hl : 1 < x.qu.left) (hl2 : x.qu.left ≤ 1024) : Calls Tryz.prog 77 #[.pointer (some ⟨P, 13, none⟩)] w fun e w' => e = .returned (.bool false) ∧ All (pxL P { x with qu := { x.qu with left := x.qu.left - 1 } } b m n1 n2 ++ cs) w' := by
  have c14 : w.cell? ⟨P, 14, none⟩ = some (.bool x.qu.wts) := by rw [cell_at h.px]; rfl
  have c20 : w.cell? ⟨P, 20, none⟩ = some (.int .i64 x.qu.left) := by rw [cell_at h.px]; rfl
  rw [hw] at c14
  have f7 := free_at h.px 20
  have A := hid (h.setBlk 20 (.int .i64 (x.qu.left - 1)))
  have e1 : IntKind.i64.wrap (x.qu.left - 1) = x.qu.left - 1 := by rw [IntKind.wrap_i64]; omega
  have e2 : decide (1 < x.qu.left) = true := by simpa using hl
  have c9 : (w.setCell ⟨P, 20, none⟩ (.int .i64 (x.qu.left - 1))).cell? ⟨P, 20, none⟩ = some (.int .i64 (x.qu.left - 1)) := by rw [cell_at A.out.1.2.1]; rfl
  clear h hw hl2
  go_enter Tryz.func77, Tryz.ntmps77
  go_wp2
  go_ret
  exact ⟨rfl, A.out⟩
theorem tickQ_yes {P : Nat} {x : Px} {b m n1 n2 : Int} {cs : List Comp} {w : World} (h : All (pxL P x b m n1 n2 ++ cs) w) (hw : x.qu.wts = true) (hl : x.qu.left = 1) (h1 : 1 ≤ n2) (h2 : n2 ≤ m) (h3 : m ≤ 1024) : Calls Tryz.prog 77 #[.pointer (some ⟨P, 13, none⟩)] w fun e w' => e = .returned (.bool true) ∧ All (pxL P { x with qu := { x.qu with left := n2 } } b m n1 (min (2 * n2) m) ++ cs) w' := by
  have c14 : w.cell? ⟨P, 14, none⟩ = some (.bool x.qu.wts) := by rw [cell_at h.px]; rfl
  have c20 : w.cell? ⟨P, 20, none⟩ = some (.int .i64 x.qu.left) := by rw [cell_at h.px]; rfl
  have c21 : w.cell? ⟨P, 21, none⟩ = some (.pointer (some ⟨x.qu.pb, 0, none⟩)) := by rw [cell_at h.px]; rfl
  rw [hw] at c14
  rw [hl] at c20
  have f7 := free_at h.px 20
  have A := h.setBlk 20 (.int .i64 0)
  have c9 : (w.setCell ⟨P, 20, none⟩ (.int .i64 0)).cell? ⟨P, 20, none⟩ = some (.int .i64 0) := by rw [cell_at A.1.2.1]; rfl
  have c10 : (w.setCell ⟨P, 20, none⟩ (.int .i64 0)).cell? ⟨P, 21, none⟩ = some (.pointer (some ⟨x.qu.pb, 0, none⟩)) := by rw [cell_at A.1.2.1]; rfl
  have f10 := free_at A.1.2.1 20
  have N := hid (next53 (A.perm (List.perm_middle (l₁ := [blkC P (x.cells.set 20 (.int .i64 0)) 111, boC x.rq.pb b m n1]))) h1 h2 h3)
  have c9 := hid c9
  have c10 := hid c10
  have f10 := hid f10
  clear h hw hl h1 h2 h3 A
  go_enter Tryz.func77, Tryz.ntmps77
  go_upto_region 4 with fail
  generalize w.setCell ⟨P, 20, none⟩ (.int .i64 0) = w1 at c9 c10 f10 N ⊢
  clear c14 c20 c21 f7
  have c9 := c9.out
  have c10 := c10.out
  have f10 := f10.out
  go_wp2_with fail
  refine N.out.mono ?_
  rintro e w2 ⟨rfl, A2⟩
  have A3 := (A2.swap).perm (List.Perm.cons _ (List.Perm.swap _ _ _))
  have d7 : w2.cell? ⟨P, 20, none⟩ = some (.int .i64 0) := by rw [cell_at A3.1.2.1]; rfl
  have g7 := free_at A3.1.2.1 20
  have A4 := hid (A3.setBlk 20 (.int .i64 n2))
  clear A2 A3 N c9 c10 f10
  go_wp2
  go_ret
  exact ⟨rfl, A4.out⟩
end Go.Proofs.YtdhkdniddjnigaaGreatDoor

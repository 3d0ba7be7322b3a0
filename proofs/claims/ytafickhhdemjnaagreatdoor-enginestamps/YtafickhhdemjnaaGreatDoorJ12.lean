import Derived.Test.YtafickhhdemjnaaGreatDoorJ8
import Derived.Test.YtafickhhdemjnaaGreatDoorJ11
import Derived.Test.YtafickhhdemjnaaGreatDoorDone1
import Derived.Test.YtafickhhdemjnaaGreatDoorDone3
import Derived.Test.YtafickhhdemjnaaGreatDoorDone5
namespace Go.Proofs.YtafickhhdemjnaaGreatDoor
open Go.RowKit
set_option linter.unusedVariables false

abbrev sA : ByteArray := ⟨#[97]⟩
abbrev sX : ByteArray := ⟨#[120]⟩
abbrev sG : ByteArray := ⟨#[103]⟩
abbrev zeroQ : List Qv := [noQ, noQ, noQ, noQ, noQ, noQ, noQ, noQ]

theorem find_z : findN zeroQ sA = -1 := by kernel_rfl
theorem find_e : findN zeroQ ⟨#[]⟩ = 0 := by kernel_rfl
theorem find_a (b : Nat) (iv : Value) : findN (zeroQ.set 0 ⟨sA, 0, iv, .map (some b)⟩) sA = 0 := by
  exact findN_at (k := 0) (q := ⟨sA, 0, iv, .map (some b)⟩) rfl (beq_self_eq_true _) (fun j p hj => absurd hj (by omega))

abbrev mapG : DataW Unit := (DataW.map []).put (.string [103]) (.lit (.int .i64 1))
abbrev GMake (P : Nat) : Int → Int → Value → List Comp → Prop := fun c x s post => c = 0 ∧ x = 0 ∧ s = .slice none 0 0 ∧ ∃ b, post = [blkC P (flat (zeroQ.set 0 ⟨sA, 0, .slice none 0 0, .map (some b)⟩)) 159, mapC b 0 (.map [])]
abbrev GPush (P b : Nat) : Int → Int → Value → List Comp → Prop := fun c x s post => c = 0 ∧ x = 0 ∧ s = .slice none 0 0 ∧ ∃ iv, post = [blkC P (flat (zeroQ.set 0 ⟨sA, 0, iv, .map (some b)⟩)) 159, ownC 9 iv (txtV [sX])]
abbrev GTake (P b : Nat) (iv : Value) : Int → Int → Value → List Comp → Prop := fun c x s post => c = 0 ∧ x = 0 ∧ ∃ so, s = .slice so 1 1 ∧ post = [blkC P (flat (zeroQ.set 0 ⟨sA, 0, iv, .map (some b)⟩)) 159, ownC 9 iv (txtV [sX]), mapC b 1 mapG, ownC 9 (.slice so 1 1) (txtV [sX])]

/-- A shelf to which 'a' was made. -/
theorem do_make {P : Nat} {cs : List Comp} {w : World} (ht : ∀ w', All ([blkC P zero32 159] ++ cs) w' → Tab w') (h : All ([blkC P zero32 159] ++ cs) w) :
    Calls Tryz.prog 122 #[.pointer (some ⟨P, 0, none⟩), opV (1 : Nat) sA ⟨#[]⟩ 0 0] w fun e w'' => ∃ b, e = .returned (.tuple #[resV 0 0 (.slice none 0 0), .int .i64 0, .int .i64 0]) ∧ All (blkC P (flat (zeroQ.set 0 ⟨sA, 0, .slice none 0 0, .map (some b)⟩)) 159 :: mapC b 0 (.map []) :: cs) w'' := by
  have D := Do_of (P := P) (j := 0) (G := GMake P) ht 1 (by omega) (by omega) sA ⟨#[]⟩ 0 0 (by decide +kernel)
    (fun cs' w' h' => done_1 (P := P) (j := 0) (G := GMake P) (qs := zeroQ) (pre := [blkC P zero32 159]) List.mem_cons_self rfl sA ⟨#[]⟩ 0 0 (fun cs2 w2 h2 => by
      rw [find_z]
      refine (make_new (f := 0) (q := noQ) h2 rfl find_e rfl 1 sA ⟨#[]⟩ 0 0).mono ?_
      rintro e w3 ⟨b, rfl, A⟩
      exact ⟨0, 0, none, 0, 0, [blkC P (flat (zeroQ.set 0 ⟨sA, 0, .slice none 0 0, .map (some b)⟩)) 159, mapC b 0 (.map [])], rfl, ⟨rfl, rfl, rfl, b, rfl⟩, A⟩) h') h
  refine D.mono ?_
  rintro e w'' ⟨c, x, so, sn, sc, post, rfl, ⟨rfl, rfl, hs, b, rfl⟩, A⟩
  rw [hs]
  exact ⟨b, rfl, A⟩

/-- 'x' is pushed on it. -/
theorem do_push {P b : Nat} {cs : List Comp} {w : World} (ht : ∀ w', All ([blkC P (flat (zeroQ.set 0 ⟨sA, 0, .slice none 0 0, .map (some b)⟩)) 159, ownC 9 (.slice none 0 0) (txtV [])] ++ cs) w' → Tab w') (h : All ([blkC P (flat (zeroQ.set 0 ⟨sA, 0, .slice none 0 0, .map (some b)⟩)) 159, ownC 9 (.slice none 0 0) (txtV [])] ++ cs) w) :
    Calls Tryz.prog 122 #[.pointer (some ⟨P, 0, none⟩), opV (3 : Nat) sA sX 0 0] w fun e w'' => ∃ iv, e = .returned (.tuple #[resV 0 0 (.slice none 0 0), .int .i64 0, .int .i64 0]) ∧ All (blkC P (flat (zeroQ.set 0 ⟨sA, 0, iv, .map (some b)⟩)) 159 :: ownC 9 iv (txtV [sX]) :: cs) w'' := by
  have D := Do_of (P := P) (j := 0) (G := GPush P b) ht 3 (by omega) (by omega) sA sX 0 0 (by decide +kernel)
    (fun cs' w' h' => done_3 (P := P) (j := 0) (G := GPush P b) (qs := zeroQ.set 0 ⟨sA, 0, .slice none 0 0, .map (some b)⟩) (pre := [blkC P (flat (zeroQ.set 0 ⟨sA, 0, .slice none 0 0, .map (some b)⟩)) 159, ownC 9 (.slice none 0 0) (txtV [])]) List.mem_cons_self rfl sA sX 0 0 (by rw [find_a]; omega) (fun cs2 w2 h2 => by
      rw [find_a]
      refine (push_ok (i := 0) (q := ⟨sA, 0, .slice none 0 0, .map (some b)⟩) (items := []) h2 rfl rfl (by simp) (by simp) (by simp) 3 sA sX 0 0).mono ?_
      rintro e w3 ⟨iv, rfl, A⟩
      exact ⟨0, 0, none, 0, 0, [blkC P (flat (zeroQ.set 0 ⟨sA, 0, iv, .map (some b)⟩)) 159, ownC 9 iv (txtV [sX])], rfl, ⟨rfl, rfl, rfl, iv, rfl⟩, A⟩) h') h
  refine D.mono ?_
  rintro e w'' ⟨c, x, so, sn, sc, post, rfl, ⟨rfl, rfl, hs, iv, rfl⟩, A⟩
  rw [hs]
  exact ⟨iv, rfl, A⟩


/-- 'g' takes it. -/
theorem do_take {P b : Nat} {iv : Value} {cs : List Comp} {w : World} (ht : ∀ w', All ([blkC P (flat (zeroQ.set 0 ⟨sA, 0, iv, .map (some b)⟩)) 159, ownC 9 iv (txtV [sX]), mapC b 0 (.map [])] ++ cs) w' → Tab w') (h : All ([blkC P (flat (zeroQ.set 0 ⟨sA, 0, iv, .map (some b)⟩)) 159, ownC 9 iv (txtV [sX]), mapC b 0 (.map [])] ++ cs) w) :
    Calls Tryz.prog 122 #[.pointer (some ⟨P, 0, none⟩), opV (5 : Nat) sA sG 0 0] w fun e w'' => ∃ so, e = .returned (.tuple #[resV 0 0 (.slice so 1 1), .int .i64 0, .int .i64 0]) ∧ All (blkC P (flat (zeroQ.set 0 ⟨sA, 0, iv, .map (some b)⟩)) 159 :: ownC 9 iv (txtV [sX]) :: mapC b 1 mapG :: ownC 9 (.slice so 1 1) (txtV [sX]) :: cs) w'' := by
  have D := Do_of (P := P) (j := 0) (G := GTake P b iv) ht 5 (by omega) (by omega) sA sG 0 0 (by decide +kernel)
    (fun cs' w' h' => done_5 (P := P) (j := 0) (G := GTake P b iv) (qs := zeroQ.set 0 ⟨sA, 0, iv, .map (some b)⟩) (pre := [blkC P (flat (zeroQ.set 0 ⟨sA, 0, iv, .map (some b)⟩)) 159, ownC 9 iv (txtV [sX]), mapC b 0 (.map [])]) List.mem_cons_self rfl sA sG 0 0 (by rw [find_a]; omega) (fun cs2 w2 h2 => by
      rw [find_a]
      refine (take_new (i := 0) (nm0 := sA) (first := 0) (item := sX) (items := []) h2 rfl rfl (by simp) (by simp) (by simp) 5 sA sG 0 0 (by decide +kernel) (by kernel_rfl) (by decide +kernel) (by omega)).mono ?_
      rintro e w3 ⟨so, rfl, A⟩
      exact ⟨0, 0, so, 1, 1, [blkC P (flat (zeroQ.set 0 ⟨sA, 0, iv, .map (some b)⟩)) 159, ownC 9 iv (txtV [sX]), mapC b 1 mapG, ownC 9 (.slice so 1 1) (txtV [sX])], rfl, ⟨rfl, rfl, so, rfl, rfl⟩, A⟩) h') h
  refine D.mono ?_
  rintro e w'' ⟨c, x, so, sn, sc, post, rfl, ⟨rfl, rfl, so', hs, rfl⟩, A⟩
  rw [hs]
  exact ⟨so', rfl, A⟩
end Go.Proofs.YtafickhhdemjnaaGreatDoor

namespace Go.Proofs.YtafickhhdemjnaaGreatDoor
open Go.RowKit
set_option linter.unusedVariables false

theorem tab_in {w w' : World} {cs : List Comp} (hT : Tab w) (h : All cs w') (hm : inC w ∈ cs) : Tab w' := hT.below (h.into hm)

theorem mapG_has (x : List UInt8) : Maps.has mapG (.string x) = true ↔ x = [103] := by
  by_cases e : x = [103]
  · subst e
    exact ⟨fun _ => rfl, fun _ => by kernel_rfl⟩
  · have : Maps.has mapG (.string x) = false := by
      rw [Maps.has_put_other (by intro h; injection h with h; exact e h)]
      rfl
    simp [this, e]
theorem mapG_left : leftD mapG (.string [103]) = (1 : Nat) := by kernel_rfl
theorem mapG_size : Maps.size mapG = 1 := by kernel_rfl
theorem slot_ex : slotB sA 0 [sX] [([103], ((1 : Nat) : Int))] = [1, 97, 0, 1, 1, 120, 1, 1, 103, 1] := by kernel_rfl

end Go.Proofs.YtafickhhdemjnaaGreatDoor

namespace Go.Proofs.YtafickhhdemjnaaGreatDoor
open Go.RowKit
set_option linter.unusedVariables false

/-- What Check tells, of any op. -/
def chkA (k : Int) (s t n m : Int) : Int := if k < 1 ∨ 8 < k then 50 else chkT k.toNat s t n m
theorem chkA_in {k : Int} (h1 : 1 ≤ k) (h8 : k ≤ 8) (s t n m : Int) : chkA k s t n m = chkT k.toNat s t n m := by unfold chkA; rw [if_neg (by omega)]
theorem chkA_out {k : Int} (h : k < 1 ∨ 8 < k) (s t n m : Int) : chkA k s t n m = 50 := by unfold chkA; rw [if_pos h]

set_option maxRecDepth 1000000 in
theorem check_out {w : World} {k : Int} (h : k < 1 ∨ 8 < k) (nm tx : ByteArray) (n m : Int) : Calls Tryz.prog 80 #[opV k nm tx n m] w fun e w' => e = .returned (.int .i64 50) ∧ Below w.heap.size w w' := by
  by_cases h1 : k < 1
  · have e1 : decide (k < 1) = true := by simpa using h1
    clear h
    go_enter Tryz.func80, Tryz.ntmps80
    go_wp2
    go_ret
    exact ⟨rfl, ba _ _⟩
  · have e1 : decide (k < 1) = false := by simpa using h1
    have e2 : decide (8 < k) = true := by simp; omega
    clear h
    go_enter Tryz.func80, Tryz.ntmps80
    go_wp2
    go_ret
    exact ⟨rfl, ba _ _⟩
theorem check_any {w : World} (hT : Tab w) (k : Int) (nm tx : ByteArray) (n m : Int) : Calls Tryz.prog 80 #[opV k nm tx n m] w fun e w' => e = .returned (.int .i64 (chkA k nm.size tx.size n m)) ∧ Below w.heap.size w w' := by
  by_cases h : k < 1 ∨ 8 < k
  · rw [chkA_out h]
    exact check_out h nm tx n m
  · rw [chkA_in (by omega) (by omega)]
    have := check_tab hT k.toNat (by omega) (by omega) nm tx n m
    rw [show ((k.toNat : Nat) : Int) = k by omega] at this
    exact this
end Go.Proofs.YtafickhhdemjnaaGreatDoor

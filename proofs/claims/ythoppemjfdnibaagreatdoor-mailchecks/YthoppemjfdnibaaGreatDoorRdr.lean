import Derived.Test.YthoppemjfdnibaaGreatDoorJ13
namespace Go.Proofs.YthoppemjfdnibaaGreatDoor
open Go.RowKit
set_option linter.unusedVariables false

/-- What a reader has left, where it is, whether it is broken. -/
structure Rst where
  rs : List UInt8
  place : Nat
  err : Int
/-- A reader, as a part. -/
def rdC (b : Nat) (D : Option Nat) (rv : Value) (r : Rst) : Comp := ⟨fun w => Rd w b D rv r.rs r.place r.err, b :: D.toList⟩
theorem rdC_good (b : Nat) (D : Option Nat) (rv : Value) (r : Rst) : (rdC b D rv r).Good := fun w w' h hl hk =>
  Rd.kept h hl.size (hk b (by simp [rdC])) (fun k hk' => hk k (by simp [rdC, h.own k hk']))
theorem All.rstep {b : Nat} {D : Option Nat} {rv rv' : Value} {r r' : Rst} {cs : List Comp} {w w' : World} (h : All (rdC b D rv r :: cs) w) (h1 : Rd w' b D rv' r'.rs r'.place r'.err) (h2 : Only b w w') : All (rdC b D rv' r' :: cs) w' := by
  refine h.turn ⟨h2.os, h2.tape, h2.output, h2.size, fun k hk hn => ?_⟩ (rdC_good _ _ _ _) h1 (fun k hk => Or.inl hk) (fun k hk => ?_)
  · simp [rdC] at hn
    exact h2.block k hk hn.1
  · simp [rdC] at hk
    rcases hk with rfl | hk
    · exact h1.lt
    · exact h1.old k hk

/-- Behind a number, a text, a failure. -/
def Rst.aft (r : Rst) (size : Nat) (e : Int) : Rst := ⟨(Go.Proofs.YthoppemjfdnibaaGreatDoor.aft r.rs r.place r.err size e).1, (Go.Proofs.YthoppemjfdnibaaGreatDoor.aft r.rs r.place r.err size e).2.1, (Go.Proofs.YthoppemjfdnibaaGreatDoor.aft r.rs r.place r.err size e).2.2⟩
def Rst.num (r : Rst) (most : Int) : Rst := r.aft (numR r.rs most 13).2.1 (numR r.rs most 13).2.2
def Rst.numV (r : Rst) (most : Int) : Int := (numR r.rs most 13).1
def Rst.txt (r : Rst) (most : Int) : Rst := r.aft (runR r.rs most).2.1 (runR r.rs most).2.2
def Rst.txtV (r : Rst) (most : Int) : ByteArray := strB (runR r.rs most).1
def Rst.fail (r : Rst) (e : Int) : Rst := if e = 0 then r else ⟨[], r.place, keepE r.err e⟩

theorem numRd {b : Nat} {D : Option Nat} {rv : Value} {r : Rst} {cs : List Comp} {w : World} (h : All (rdC b D rv r :: cs) w) (hp : r.place + r.rs.length ≤ 140737488355328) (most : Int) : Calls Tryz.prog 91 #[.pointer (some ⟨b, 0, none⟩), .int .i64 most] w fun e w' => e = .returned (.int .i64 (r.numV most)) ∧ ∃ rv', All (rdC b D rv' (r.num most) :: cs) w' :=
  (Num_any h.1.2.1 hp most).mono fun e w' ⟨h1, ⟨rv', h2⟩, h3⟩ => ⟨h1, rv', h.rstep h2 h3⟩
theorem textRd {b : Nat} {D : Option Nat} {rv : Value} {r : Rst} {cs : List Comp} {w : World} (h : All (rdC b D rv r :: cs) w) (hp : r.place + r.rs.length ≤ 140737488355328) (most : Int) : Calls Tryz.prog 166 #[.pointer (some ⟨b, 0, none⟩), .int .i64 most] w fun e w' => e = .returned (.string (r.txtV most)) ∧ ∃ rv', All (rdC b D rv' (r.txt most) :: cs) w' :=
  (Text_any h.1.2.1 hp most).mono fun e w' ⟨h1, ⟨rv', h2⟩, h3⟩ => ⟨h1, rv', h.rstep h2 h3⟩
theorem errRd {b : Nat} {D : Option Nat} {rv : Value} {r : Rst} {cs : List Comp} {w : World} (h : All (rdC b D rv r :: cs) w) : Calls Tryz.prog 174 #[.pointer (some ⟨b, 0, none⟩)] w fun e w' => e = .returned (.tuple #[.int .i64 r.err, .int .i64 (r.place : Int)]) ∧ All (rdC b D rv r :: cs) w' :=
  (Err_any h.1.2.1).mono fun e w' ⟨h1, h2⟩ => ⟨h1, h.later h2⟩

set_option maxRecDepth 1000000 in
theorem fail0 {b : Nat} {D : Option Nat} {rv : Value} {rs : List UInt8} {place : Nat} {err : Int} {w : World} (h : Rd w b D rv rs place err) : Calls Tryz.prog 92 #[.pointer (some ⟨b, 0, none⟩), .int .i64 0] w fun e w' => e = .returned (.tuple #[]) ∧ w' = w := by
  have c2 : w.cell? ⟨b, 2, none⟩ = some (.int .i64 err) := by rw [cell_at h.box]; rfl
  clear h
  by_cases hz : err = 0
  · subst hz
    go_enter Tryz.func92, Tryz.ntmps92
    go_wp2
    go_end0
    exact ⟨rfl, rfl⟩
  · have hb1 : (err == 0) = false := by simpa using hz
    go_enter Tryz.func92, Tryz.ntmps92
    go_wp2
    go_end0
    exact ⟨rfl, rfl⟩
theorem failRd {b : Nat} {D : Option Nat} {rv : Value} {r : Rst} {cs : List Comp} {w : World} (h : All (rdC b D rv r :: cs) w) (e0 : Int) : Calls Tryz.prog 92 #[.pointer (some ⟨b, 0, none⟩), .int .i64 e0] w fun e w' => e = .returned (.tuple #[]) ∧ ∃ rv', All (rdC b D rv' (r.fail e0) :: cs) w' := by
  by_cases he : e0 = 0
  · subst he
    refine (fail0 h.1.2.1).mono ?_
    rintro e w' ⟨h1, rfl⟩
    refine ⟨h1, rv, ?_⟩
    rw [Rst.fail, if_pos rfl]
    exact h
  · refine (rfail_any h.1.2.1 e0 he).mono ?_
    rintro e w' ⟨h1, ⟨rv', h2⟩, h3⟩
    refine ⟨h1, rv', h.rstep ?_ h3⟩
    rw [Rst.fail, if_neg he]
    exact h2

set_option maxRecDepth 1000000 in
theorem wholeRd {b : Nat} {D : Option Nat} {rv : Value} {r : Rst} {cs : List Comp} {w : World} (h : All (rdC b D rv r :: cs) w) : Calls Tryz.prog 167 #[.pointer (some ⟨b, 0, none⟩)] w fun e w' => e = .returned (.bool (r.err == 0)) ∧ All (rdC b D rv r :: cs) w' := by
  have HH := hid h
  clear h
  go_enter Tryz.func167, Tryz.ntmps167
  go_wp2_with fail
  refine (errRd HH.out).mono ?_
  rintro e w1 ⟨rfl, A1⟩
  have A1 := hid A1
  clear HH
  go_wp2
  go_ret
  exact ⟨rfl, A1.out⟩
end Go.Proofs.YthoppemjfdnibaaGreatDoor

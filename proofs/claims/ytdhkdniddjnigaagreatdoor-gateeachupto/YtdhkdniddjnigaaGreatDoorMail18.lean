import Derived.Test.YtdhkdniddjnigaaGreatDoorMail17
namespace Go.Proofs.YtdhkdniddjnigaaGreatDoor
open Go.RowKit
set_option linter.unusedVariables false

/-- May a cargo be? -/
def cgB (f b : Int) (ls : List Sh) (le : List Ent) : Bool := opsB f b le.length && (shsB f b (-1) ls && le.all entB)
def cgE (z : Bool) : Int := if z then 0 else 100
set_option maxHeartbeats 1600000 in
set_option maxRecDepth 1000000 in
theorem cargo_any {w : World} (hT : Tab w) (f b : Int) {sa xa : Option Addr} {ls : List Sh} {le : List Ent} (hs : Shs w sa ls) (he : Ents w xa le) (sp xp : Nat) (hls : ls.length ≤ 9223372036854775807) (hle : le.length ≤ 9223372036854775807) : Calls Tryz.prog 172 #[cgV f b sa ls.length sp xa le.length xp] w fun e w' => e = .returned (.int .i64 (cgE (cgB f b ls le))) ∧ Below w.heap.size w w' := by
  obtain ⟨w0, hw0⟩ : ∃ w0, Hid (w.alloc (.cells #[.int .i64 f, .int .i64 b, .slice sa ls.length sp, .slice xa le.length xp] 49) = w0) := ⟨_, hid rfl⟩
  obtain ⟨K, hK⟩ : ∃ K, Hid (w.heap.size = K) := ⟨_, hid rfl⟩
  have Q0 : Hid (w0.cell? ⟨K, 0, none⟩ = some (.int .i64 f)) := hid (by rw [← hw0.out, ← hK.out]; simp)
  have Q1 : Hid (w0.cell? ⟨K, 1, none⟩ = some (.int .i64 b)) := hid (by rw [← hw0.out, ← hK.out]; simp)
  have Q2 : Hid (w0.cell? ⟨K, 2, none⟩ = some (.slice sa ls.length sp)) := hid (by rw [← hw0.out, ← hK.out]; simp)
  have Q3 : Hid (w0.cell? ⟨K, 3, none⟩ = some (.slice xa le.length xp)) := hid (by rw [← hw0.out, ← hK.out]; simp)
  have KW : Hid ((⟨K, 0, none⟩ : Addr).block < w0.heap.size) := hid (by rw [← hw0.out, ← hK.out]; simp)
  have bw : Hid (Below w.heap.size w w0) := hid (by rw [← hw0.out]; exact ba _ _)
  have BW : Hid (∀ W, Below w0.heap.size w0 W → Below w.heap.size w W) := hid (fun W hW => bw.out.trans (hW.mono bw.out.size))
  have C1 : Hid (∀ W, Below w0.heap.size w0 W → Calls Tryz.prog 197 #[cgV f b sa ls.length sp xa le.length xp] W fun e w' => e = .returned (.bool (opsB f b le.length)) ∧ Below w0.heap.size w0 w') := hid (fun W hW => (ops_any f b sa ls.length sp xa le.length xp).mono fun e w' ⟨h1, h2⟩ => ⟨h1, hW.trans (h2.mono hW.size)⟩)
  have C2 : Hid (∀ W, Below w0.heap.size w0 W → Calls Tryz.prog 198 #[cgV f b sa ls.length sp xa le.length xp] W fun e w' => e = .returned (.bool (shsB f b (-1) ls)) ∧ Below w0.heap.size w0 w') := hid (fun W hW => (sheets_any f b (hs.later (BW.out W hW)) sp xa le.length xp hls).mono fun e w' ⟨h1, h2⟩ => ⟨h1, hW.trans (h2.mono hW.size)⟩)
  have C3 : Hid (∀ W, Below w0.heap.size w0 W → Calls Tryz.prog 199 #[.slice xa le.length xp] W fun e w' => e = .returned (.bool (le.all entB)) ∧ Below w0.heap.size w0 w') := hid (fun W hW => (ents_any (hT.below (BW.out W hW)) (he.later (BW.out W hW)) xp hle).mono fun e w' ⟨h1, h2⟩ => ⟨h1, hW.trans (h2.mono hW.size)⟩)
  have E : Hid (cgB f b ls le = (opsB f b le.length && (shsB f b (-1) ls && le.all entB))) := hid rfl
  generalize opsB f b le.length = z1 at C1 E
  generalize shsB f b (-1) ls = z2 at C2 E
  generalize le.all entB = z3 at C3 E
  generalize cgB f b ls le = z at E ⊢
  clear hT hs he
  have q0 := Q0.out
  have q1 := Q1.out
  have q2 := Q2.out
  have q3 := Q3.out
  go_enter Tryz.func172, Tryz.ntmps172
  go_upto_region 1 with fail
  rw [hw0.out, hK.out]
  go_wp2_with fail
  refine (C1.out _ (Below.refl _ _)).mono ?_
  rintro e w1 ⟨rfl, B1⟩
  have B1 := hid B1
  clear q0 q1 q2 q3 hw0
  cases z1
  · have F : Hid (z = false) := hid (by rw [E.out]; rfl)
    go_wp2
    go_ret
    exact ⟨by rw [F.out]; rfl, BW.out _ B1.out⟩
  have q0 : w1.cell? ⟨K, 0, none⟩ = some (.int .i64 f) := cell_under B1.out KW.out Q0.out
  have q1 : w1.cell? ⟨K, 1, none⟩ = some (.int .i64 b) := cell_under B1.out KW.out Q1.out
  have q2 : w1.cell? ⟨K, 2, none⟩ = some (.slice sa ls.length sp) := cell_under B1.out KW.out Q2.out
  have q3 : w1.cell? ⟨K, 3, none⟩ = some (.slice xa le.length xp) := cell_under B1.out KW.out Q3.out
  go_wp2_with fail
  refine (C2.out _ B1.out).mono ?_
  rintro e w2 ⟨rfl, B2⟩
  have B2 := hid B2
  clear q0 q1 q2 q3
  cases z2
  · have F : Hid (z = false) := hid (by rw [E.out]; rfl)
    go_wp2
    go_ret
    exact ⟨by rw [F.out]; rfl, BW.out _ B2.out⟩
  have q3 : w2.cell? ⟨K, 3, none⟩ = some (.slice xa le.length xp) := cell_under B2.out KW.out Q3.out
  go_wp2_with fail
  refine (C3.out _ B2.out).mono ?_
  rintro e w3 ⟨rfl, B3⟩
  have B3 := hid B3
  clear q3
  cases z3
  · have F : Hid (z = false) := hid (by rw [E.out]; rfl)
    go_wp2
    go_ret
    exact ⟨by rw [F.out]; rfl, BW.out _ B3.out⟩
  · have F : Hid (z = true) := hid (by rw [E.out]; rfl)
    go_wp2
    go_ret
    exact ⟨by rw [F.out]; rfl, BW.out _ B3.out⟩
end Go.Proofs.YtdhkdniddjnigaaGreatDoor

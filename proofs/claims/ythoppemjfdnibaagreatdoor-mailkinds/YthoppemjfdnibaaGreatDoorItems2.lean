import Derived.Test.YthoppemjfdnibaaGreatDoorItems
namespace Go.Proofs.YthoppemjfdnibaaGreatDoor
open Go.RowKit
set_option linter.unusedVariables false

theorem unfold_odd (n : Nat) (hn : n < 18446744073709551616) (h0 : n % 2 = 1) : wrap64 (bits BinOp.xor IntKind.u64 IntKind.u64.max ((n : Int) / 2)) = unfoldN n := by
  have e0 : IntKind.u64.max = 18446744073709551615 := by decide
  rw [e0, u64_xor _ _ (by omega) (by omega) (by omega) (by omega)]
  have e1 : (18446744073709551615 : Int).toNat = 2 ^ 64 - 1 := by decide
  have e2 : ((n : Int) / 2).toNat < 2 ^ 64 := by omega
  rw [e1, xor_ones _ e2]
  unfold unfoldN wrap64
  rw [if_pos h0]
  omega

/-- What Signed reads. -/
def signedR (rs : List UInt8) : Int × Nat × Int := (unfoldN (look 10 1 0 rs 0).1, (look 10 1 0 rs 0).2.1, (look 10 1 0 rs 0).2.2)

theorem signedR_size (rs : List UInt8) : (signedR rs).2.1 ≤ rs.length := by
  have h := (look_bound 10 1 (by omega) (by omega) (by omega) rs 0 0 (by omega) (by simp)).2.2.1
  unfold signedR
  simp only
  omega

set_option maxHeartbeats 800000 in
set_option maxRecDepth 1000000 in
theorem Err_any {w : World} {b : Nat} {D : Option Nat} {rv : Value} {rs : List UInt8} {place : Nat} {err : Int} (h : Rd w b D rv rs place err) :
    Calls Tryz.prog 174 #[.pointer (some ⟨b, 0, none⟩)] w fun e w' => e = .returned (.tuple #[.int .i64 err, .int .i64 (place : Int)]) ∧ Below w.heap.size w w' := by
  have c1 : w.cell? ⟨b, 1, none⟩ = some (.int .i64 (place : Int)) := by rw [cell_at h.box]; rfl
  have c2 : w.cell? ⟨b, 2, none⟩ = some (.int .i64 err) := by rw [cell_at h.box]; rfl
  clear h
  go_enter Tryz.func174, Tryz.ntmps174
  go_wp2
  go_region
  go_wp2
  go_ret2
  exact ⟨rfl, (Below.refl _ _).drew⟩

set_option maxHeartbeats 800000 in
set_option maxRecDepth 1000000 in
theorem NewWriter_any (w : World) :
    Calls Tryz.prog 41 #[] w fun e w' => e = .returned (.pointer (some ⟨w.heap.size, 0, none⟩)) ∧ Wst w' w.heap.size (.slice none 0 0) (some []) ∧ Below w.heap.size w w' := by
  go_enter Tryz.func41, Tryz.ntmps41
  go_wp2
  go_ret
  exact ⟨rfl, ⟨alloc_new_at _ _, World.ownsRow_nil _ _ _ _⟩, (Below.refl _ _).alloc (Nat.le_refl _) _⟩

set_option maxHeartbeats 800000 in
set_option maxRecDepth 1000000 in
theorem NewReader_any {w : World} {s : Value} {l : List UInt8} (h : Reads w s l) (hlen : l.length ≤ 140737488355328) :
    Calls Tryz.prog 62 #[s] w fun e w' => ∃ b D rv, e = .returned (.pointer (some ⟨b, 0, none⟩)) ∧ Rd w' b D rv l 0 0 ∧ Below w.heap.size w w' ∧ w.heap.size ≤ b ∧ ∀ k, D = some k → w.heap.size ≤ k ∧ k < w'.heap.size := by
  have HH : Hid _ := h
  obtain ⟨ao, c, hf⟩ := h.form
  subst hf
  clear h
  go_enter Tryz.func62, Tryz.ntmps62
  go_wp2_with fail
  refine (clone_any HH.out hlen).mono ?_
  rintro e w1 ⟨s', rfl, h1, h2⟩
  obtain ⟨ao', c', hf⟩ := owns_form h1
  subst hf
  have H1 : Hid _ := h1
  have H2 : Hid _ := h2
  clear h1 h2
  go_wp2
  go_ret
  refine ⟨w1.heap.size, (Value.slice ao' l.length c').ownBlock, _, rfl, ⟨alloc_new_at _ _, (Reads.of_owns H1.out).below ((Below.refl _ _).alloc (Nat.le_refl _) _), fun k hk => hk, ?_, fun e => absurd rfl e, fun k hk => by have := (World.ownsRow.lt H1.out k hk).2; simp; omega⟩, H2.out.alloc H2.out.size _, H2.out.size, ?_⟩
  · intro e
    have := (World.ownsRow.lt H1.out _ e).2
    omega
  · intro k hk
    have := World.ownsRow.lt H1.out k hk
    simp
    omega

end Go.Proofs.YthoppemjfdnibaaGreatDoor

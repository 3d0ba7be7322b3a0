import Derived.Test.YteloaggebkbeeaaDoorText
import Derived.Defers
namespace Go.Proofs.YteloaggebkbeeaaDoor
open Go.RowKit
set_option linter.unusedVariables false

/-- Nothing old has turned but one block. -/
structure Only (b : Nat) (w w' : World) : Prop where
  os : w'.os = w.os
  tape : w'.tape = w.tape
  output : w'.output = w.output
  size : w.heap.size ≤ w'.heap.size
  block : ∀ k, k < w.heap.size → k ≠ b → w'.heap[k]? = w.heap[k]?

theorem Only.refl (b : Nat) (w : World) : Only b w w := ⟨rfl, rfl, rfl, Nat.le_refl _, fun _ _ _ => rfl⟩
theorem Only.trans {b : Nat} {w w' w'' : World} (h : Only b w w') (k : Only b w' w'') : Only b w w'' :=
  ⟨k.os.trans h.os, k.tape.trans h.tape, k.output.trans h.output, Nat.le_trans h.size k.size, fun i hi hb => (k.block i (Nat.lt_of_lt_of_le hi h.size) hb).trans (h.block i hi hb)⟩
/-- One that turned a block that was not there has turned none. -/
theorem Only.new {b c : Nat} {w w' : World} (h : Only c w w') (hc : w.heap.size ≤ c) : Only b w w' := ⟨h.os, h.tape, h.output, h.size, fun k hk _ => h.block k hk (by omega)⟩
theorem Only.below {b : Nat} {w w' : World} (h : Below w.heap.size w w') : Only b w w' := ⟨h.os, h.tape, h.output, h.size, fun k hk _ => h.block k hk⟩
theorem Only.after {t : Nat} {w w1 w2 : World} (h1 : Below w.heap.size w w1) (h2 : Only t w1 w2) (ht : w.heap.size ≤ t) : Below w.heap.size w w2 :=
  ⟨h2.os.trans h1.os, h2.tape.trans h1.tape, h2.output.trans h1.output, Nat.le_trans h1.size h2.size, fun k hk => (h2.block k (Nat.lt_of_lt_of_le hk h1.size) (by omega)).trans (h1.block k hk)⟩
theorem Only.alloc (b : Nat) (w : World) (o : Obj) : Only b w (w.alloc o) := Only.below ((Below.refl _ _).alloc (Nat.le_refl _) _)
theorem Only.setCell {b : Nat} (w : World) (j : Nat) (u : Value) : Only b w (w.setCell ⟨b, j, none⟩ u) :=
  ⟨rfl, rfl, rfl, by simp [World.setCell], fun k _ hb => Below.heap_setCell _ _ _ _ (by simpa using hb)⟩
theorem Only.drew (b : Nat) (w : World) : Only b w w.drew := ⟨rfl, rfl, rfl, Nat.le_refl _, fun _ _ _ => rfl⟩
theorem Only.drewN (b : Nat) (w : World) (n : Nat) : Only b w (w.drewN n) := ⟨rfl, rfl, rfl, Nat.le_refl _, fun _ _ _ => rfl⟩
theorem Reads.only {w w' : World} {s : Value} {l : List UInt8} {b : Nat} (h : Reads w s l) (hw : Only b w w') (hb : s.ownBlock ≠ some b) : Reads w' s l :=
  h.kept hw.size fun k hk => hw.block k (h.block k hk) (fun e => hb (by rw [hk, e]))

theorem Reads.form {w : World} {s : Value} {l : List UInt8} (h : Reads w s l) : ∃ ao c, s = .slice ao l.length c := by
  obtain ⟨ao, c, e, _⟩ := h; exact ⟨ao, c, e⟩

theorem alloc_new_at (w : World) (o : Obj) : (w.alloc o).heap[w.heap.size]? = some o := heap_alloc_new w o

theorem Reads.at {w : World} {ao : Option Addr} {n c : Nat} {l : List UInt8} (h : Reads w (.slice ao n c) l) (k : Nat) (hk : k < l.length) : ∃ g o, ao = some ⟨g, o, none⟩ ∧ w.cell? ⟨g, o + k, none⟩ = some (.int .u8 ((l.getD k 0).toNat : Int)) := by
  obtain ⟨ao', c', e, hc, hcase⟩ := h
  simp only [Value.slice.injEq] at e
  obtain ⟨rfl, rfl, rfl⟩ := e
  rcases hcase with ⟨_, rfl, _⟩ | ⟨g, o, rfl, hg, hcell⟩
  · simp at hk
  · exact ⟨g, o, rfl, hcell k _ (by simp [cellsB, hk, List.getD])⟩

theorem or_form (acc x k most top : Nat) (hx : x < 256) (h : acc < 128 ^ k) (hk : k < most) (hm : most ≤ 10) (ht2 : most = 10 → top ≤ 1) (hw : ¬ (k + 1 = most ∧ top < x)) :
    bits BinOp.or IntKind.u64 (acc : Int) (IntKind.u64.wrap (IntKind.u64.wrap (bits BinOp.andNot IntKind.u8 (x : Int) 128) * 2 ^ (k * 7))) = ((acc + x % 128 * 128 ^ k : Nat) : Int) := by
  have ha := acc_lt acc x k most top h hk hm ht2 hw
  have e1 : bits BinOp.andNot IntKind.u8 (x : Int) 128 = ((x % 128 : Nat) : Int) := by
    have := u8_andNot_nat x 128 hx (by omega)
    rw [and127 x hx] at this
    exact this
  have e2 : IntKind.u64.wrap ((x % 128 : Nat) : Int) = ((x % 128 : Nat) : Int) := by rw [IntKind.wrap_u64]; omega
  have e3 : ((x % 128 : Nat) : Int) * 2 ^ (k * 7) = ((x % 128 * 128 ^ k : Nat) : Int) := by
    have : (2 : Nat) ^ (k * 7) = 128 ^ k := by rw [Nat.mul_comm, Nat.pow_mul]
    rw [← this]
    push_cast
    rfl
  have e4 : IntKind.u64.wrap ((x % 128 * 128 ^ k : Nat) : Int) = ((x % 128 * 128 ^ k : Nat) : Int) := by rw [IntKind.wrap_u64]; omega
  rw [e1, e2, e3, e4, u64_or_nat _ _ (by omega) ha.2.2, or_add _ _ _ h]

theorem and_yes (x : Nat) (hx : x < 256) (h : 128 ≤ x) : (bits BinOp.and IntKind.u8 (x : Int) 128 != 0) = true := by
  have := u8_and_nat x 128 hx (by omega)
  rw [and128 x hx, if_pos h] at this
  have e : bits BinOp.and IntKind.u8 (x : Int) 128 = 128 := this
  rw [e]; rfl

theorem and_no (x : Nat) (hx : x < 256) (h : x < 128) : (bits BinOp.and IntKind.u8 (x : Int) 128 != 0) = false := by
  have := u8_and_nat x 128 hx (by omega)
  rw [and128 x hx, if_neg (by omega)] at this
  have e : bits BinOp.and IntKind.u8 (x : Int) 128 = 0 := this
  rw [e]; rfl

end Go.Proofs.YteloaggebkbeeaaDoor

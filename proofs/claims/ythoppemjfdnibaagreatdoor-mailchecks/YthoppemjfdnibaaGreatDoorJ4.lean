import Derived.Test.YthoppemjfdnibaaGreatDoorJ3
import Derived.Defers
namespace Go.Proofs.YthoppemjfdnibaaGreatDoor
open Go.RowKit
set_option linter.unusedVariables false

/-- Nothing old has turned but one block. -/
structure Only (b : Nat) (w w' : World) : Prop where
  os : w'.os = w.os
  tape : w'.tape = w.tape
  output : w'.output = w.output
  size : w.heap.size ≤ w'.heap.size
  block : ∀ k, k < w.heap.size → k ≠ b → w'.heap[k]? = w.heap[k]?

theorem Only.refl (b : Nat) (w : World) : Only b w w := ⟨rfl, rfl, rfl, Nat.le_refl _, fun _ _ _ => rfl⟩
theorem Only.trans {b : Nat} {w w' w'' : World} (h : Only b w w') (k : Only b w' w'') : Only b w w'' :=
  ⟨k.os.trans h.os, k.tape.trans h.tape, k.output.trans h.output, Nat.le_trans h.size k.size, fun i hi hb => (k.block i (Nat.lt_of_lt_of_le hi h.size) hb).trans (h.block i hi hb)⟩
/-- One that turned a block that was not there has turned none. -/
theorem Only.new {b c : Nat} {w w' : World} (h : Only c w w') (hc : w.heap.size ≤ c) : Only b w w' := ⟨h.os, h.tape, h.output, h.size, fun k hk _ => h.block k hk (by omega)⟩
theorem Only.below {b : Nat} {w w' : World} (h : Below w.heap.size w w') : Only b w w' := ⟨h.os, h.tape, h.output, h.size, fun k hk _ => h.block k hk⟩
theorem Only.after {t : Nat} {w w1 w2 : World} (h1 : Below w.heap.size w w1) (h2 : Only t w1 w2) (ht : w.heap.size ≤ t) : Below w.heap.size w w2 :=
  ⟨h2.os.trans h1.os, h2.tape.trans h1.tape, h2.output.trans h1.output, Nat.le_trans h1.size h2.size, fun k hk => (h2.block k (Nat.lt_of_lt_of_le hk h1.size) (by omega)).trans (h1.block k hk)⟩
theorem Only.alloc (b : Nat) (w : World) (o : Obj) : Only b w (w.alloc o) := Only.below ((Below.refl _ _).alloc (Nat.le_refl _) _)
theorem Only.setCell {b : Nat} (w : World) (j : Nat) (u : Value) : Only b w (w.setCell ⟨b, j, none⟩ u) :=
  ⟨rfl, rfl, rfl, by simp [World.setCell], fun k _ hb => Below.heap_setCell _ _ _ _ (by simpa using hb)⟩
theorem Only.drew (b : Nat) (w : World) : Only b w w.drew := ⟨rfl, rfl, rfl, Nat.le_refl _, fun _ _ _ => rfl⟩
theorem Only.drewN (b : Nat) (w : World) (n : Nat) : Only b w (w.drewN n) := ⟨rfl, rfl, rfl, Nat.le_refl _, fun _ _ _ => rfl⟩
theorem Reads.only {w w' : World} {s : Value} {l : List UInt8} {b : Nat} (h : Reads w s l) (hw : Only b w w') (hb : s.ownBlock ≠ some b) : Reads w' s l :=
  h.kept hw.size fun k hk => hw.block k (h.block k hk) (fun e => hb (by rw [hk, e]))

/-- A reader: what is left, the place, the error; D: where its bytes lie. -/
structure Rd (w : World) (b : Nat) (D : Option Nat) (rv : Value) (rs : List UInt8) (place : Nat) (err : Int) : Prop where
  box : w.heap[b]? = some (.cells #[rv, .int .i64 (place : Int), .int .i64 err] 111 (0, 0))
  reads : Reads w rv rs
  own : ∀ k, rv.ownBlock = some k → D = some k
  apart : D ≠ some b
  broken : err ≠ 0 → rs = []
  old : ∀ k, D = some k → k < w.heap.size

theorem Rd.lt {w : World} {b : Nat} {D : Option Nat} {rv : Value} {rs : List UInt8} {place : Nat} {err : Int} (h : Rd w b D rv rs place err) : b < w.heap.size := (Array.getElem?_eq_some_iff.1 h.box).1

theorem Rd.kept {w w' : World} {b : Nat} {D : Option Nat} {rv : Value} {rs : List UInt8} {place : Nat} {err : Int} (h : Rd w b D rv rs place err) (hs : w.heap.size ≤ w'.heap.size) (hb : w'.heap[b]? = w.heap[b]?) (hD : ∀ k, rv.ownBlock = some k → w'.heap[k]? = w.heap[k]?) : Rd w' b D rv rs place err :=
  ⟨by rw [hb]; exact h.box, h.reads.kept hs hD, h.own, h.apart, h.broken, fun k hk => Nat.lt_of_lt_of_le (h.old k hk) hs⟩

theorem Reads.form {w : World} {s : Value} {l : List UInt8} (h : Reads w s l) : ∃ ao c, s = .slice ao l.length c := by
  obtain ⟨ao, c, e, _⟩ := h; exact ⟨ao, c, e⟩

/-- An item that is read. -/
def Item (w : World) (t : Nat) (rv : Value) (size : Int) (err : Int) : Prop := w.heap[t]? = some (.cells #[rv, .int .i64 size, .int .i64 err] 150 (0, 0))

theorem alloc_new_at (w : World) (o : Obj) : (w.alloc o).heap[w.heap.size]? = some o := heap_alloc_new w o

set_option maxHeartbeats 800000 in
set_option maxRecDepth 1000000 in
theorem begin_any {w : World} {b : Nat} {D : Option Nat} {rv : Value} {rs : List UInt8} {place : Nat} {err : Int} (h : Rd w b D rv rs place err) :
    Calls Tryz.prog 136 #[.pointer (some ⟨b, 0, none⟩)] w fun e w' => e = .returned (.pointer (some ⟨w.heap.size, 0, none⟩)) ∧ Item w' w.heap.size rv 0 0 ∧ Below w.heap.size w w' ∧ w.heap.size < w'.heap.size := by
  obtain ⟨ao, c, hf⟩ := h.reads.form
  have c0 : w.cell? ⟨b, 0, none⟩ = some (.slice ao rs.length c) := by rw [cell_at h.box, ← hf]; rfl
  clear h
  subst hf
  go_enter Tryz.func136, Tryz.ntmps136
  go_wp2
  go_ret
  exact ⟨rfl, alloc_new_at _ _, (Below.refl _ _).alloc (Nat.le_refl _) _, by simp⟩

set_option maxHeartbeats 800000 in
set_option maxRecDepth 1000000 in
theorem rfail_any {w : World} {b : Nat} {D : Option Nat} {rv : Value} {rs : List UInt8} {place : Nat} {err : Int} (h : Rd w b D rv rs place err) (e0 : Int) (he : e0 ≠ 0) :
    Calls Tryz.prog 92 #[.pointer (some ⟨b, 0, none⟩), .int .i64 e0] w fun e w' => e = .returned (.tuple #[]) ∧ (∃ rv', Rd w' b D rv' [] place (keepE err e0)) ∧ Only b w w' := by
  have c0 : w.cell? ⟨b, 0, none⟩ = some rv := by rw [cell_at h.box]; rfl
  have c1 : w.cell? ⟨b, 1, none⟩ = some (.int .i64 (place : Int)) := by rw [cell_at h.box]; rfl
  have c2 : w.cell? ⟨b, 2, none⟩ = some (.int .i64 err) := by rw [cell_at h.box]; rfl
  have f0 := free_at h.box 0
  have f2 := free_at h.box 2
  have HH : Hid _ := h
  clear h
  by_cases hz : err = 0
  · subst hz
    have hb1 : (e0 != 0) = true := by simpa using he
    have R : Hid (Rd ((w.setCell ⟨b, 0, none⟩ (.slice none 0 0)).setCell ⟨b, 2, none⟩ (.int .i64 e0)) b D (.slice none 0 0) [] place e0 ∧ Only b w ((w.setCell ⟨b, 0, none⟩ (.slice none 0 0)).setCell ⟨b, 2, none⟩ (.int .i64 e0))) := by
      refine ⟨⟨?_, ⟨none, 0, rfl, by simp, Or.inl ⟨rfl, rfl, rfl⟩⟩, fun k hk => by simp [Value.ownBlock] at hk, HH.out.apart, fun _ => rfl, fun k hk => by have := HH.out.old k hk; simpa [World.setCell] using this⟩, (Only.setCell w 0 _).trans (Only.setCell _ 2 _)⟩
      rw [heap_setCell_same (heap_setCell_same HH.out.box _)]; rfl
    go_enter Tryz.func92, Tryz.ntmps92
    go_wp2
    go_end0
    exact ⟨rfl, ⟨_, by simpa [keepE] using R.out.1⟩, R.out.2⟩
  · have hb1 : (err == 0) = false := by simpa using hz
    go_enter Tryz.func92, Tryz.ntmps92
    go_wp2
    go_end0
    refine ⟨rfl, ⟨rv, ?_⟩, Only.refl _ _⟩
    have hrs := HH.out.broken hz
    subst hrs
    unfold keepE
    rw [if_neg hz]
    exact HH.out

theorem Reads.at {w : World} {ao : Option Addr} {n c : Nat} {l : List UInt8} (h : Reads w (.slice ao n c) l) (k : Nat) (hk : k < l.length) : ∃ g o, ao = some ⟨g, o, none⟩ ∧ w.cell? ⟨g, o + k, none⟩ = some (.int .u8 ((l.getD k 0).toNat : Int)) := by
  obtain ⟨ao', c', e, hc, hcase⟩ := h
  simp only [Value.slice.injEq] at e
  obtain ⟨rfl, rfl, rfl⟩ := e
  rcases hcase with ⟨_, rfl, _⟩ | ⟨g, o, rfl, hg, hcell⟩
  · simp at hk
  · exact ⟨g, o, rfl, hcell k _ (by simp [cellsB, hk, List.getD])⟩

theorem or_form (acc x k most top : Nat) (hx : x < 256) (h : acc < 128 ^ k) (hk : k < most) (hm : most ≤ 10) (ht2 : most = 10 → top ≤ 1) (hw : ¬ (k + 1 = most ∧ top < x)) :
    bits BinOp.or IntKind.u64 (acc : Int) (IntKind.u64.wrap (IntKind.u64.wrap (bits BinOp.andNot IntKind.u8 (x : Int) 128) * 2 ^ (k * 7))) = ((acc + x % 128 * 128 ^ k : Nat) : Int) := by
  have ha := acc_lt acc x k most top h hk hm ht2 hw
  have e1 : bits BinOp.andNot IntKind.u8 (x : Int) 128 = ((x % 128 : Nat) : Int) := by
    have := u8_andNot_nat x 128 hx (by omega)
    rw [and127 x hx] at this
    exact this
  have e2 : IntKind.u64.wrap ((x % 128 : Nat) : Int) = ((x % 128 : Nat) : Int) := by rw [IntKind.wrap_u64]; omega
  have e3 : ((x % 128 : Nat) : Int) * 2 ^ (k * 7) = ((x % 128 * 128 ^ k : Nat) : Int) := by
    have : (2 : Nat) ^ (k * 7) = 128 ^ k := by rw [Nat.mul_comm, Nat.pow_mul]
    rw [← this]
    push_cast
    rfl
  have e4 : IntKind.u64.wrap ((x % 128 * 128 ^ k : Nat) : Int) = ((x % 128 * 128 ^ k : Nat) : Int) := by rw [IntKind.wrap_u64]; omega
  rw [e1, e2, e3, e4, u64_or_nat _ _ (by omega) ha.2.2, or_add _ _ _ h]

theorem and_yes (x : Nat) (hx : x < 256) (h : 128 ≤ x) : (bits BinOp.and IntKind.u8 (x : Int) 128 != 0) = true := by
  have := u8_and_nat x 128 hx (by omega)
  rw [and128 x hx, if_pos h] at this
  have e : bits BinOp.and IntKind.u8 (x : Int) 128 = 128 := this
  rw [e]; rfl

theorem and_no (x : Nat) (hx : x < 256) (h : x < 128) : (bits BinOp.and IntKind.u8 (x : Int) 128 != 0) = false := by
  have := u8_and_nat x 128 hx (by omega)
  rw [and128 x hx, if_neg (by omega)] at this
  have e : bits BinOp.and IntKind.u8 (x : Int) 128 = 0 := this
  rw [e]; rfl

theorem item_err {w : World} {t : Nat} {rv : Value} {a b : Int} (h : Item w t rv a b) (e : Int) : Item (w.setCell ⟨t, 2, none⟩ (.int .i64 e)) t rv a e ∧ Only t w (w.setCell ⟨t, 2, none⟩ (.int .i64 e)) := by
  refine ⟨?_, Only.setCell _ _ _⟩
  unfold Item
  rw [heap_setCell_same h]; rfl

theorem item_size {w : World} {t : Nat} {rv : Value} {a b : Int} (h : Item w t rv a b) (n : Int) : Item (w.setCell ⟨t, 1, none⟩ (.int .i64 n)) t rv n b ∧ Only t w (w.setCell ⟨t, 1, none⟩ (.int .i64 n)) := by
  refine ⟨?_, Only.setCell _ _ _⟩
  unfold Item
  rw [heap_setCell_same h]; rfl

set_option maxHeartbeats 3200000 in
set_option maxRecDepth 1000000 in
theorem groups_item {w : World} {t : Nat} {rv : Value} {rs : List UInt8} (hI : Item w t rv 0 0) (hr : Reads w rv rs) (most top : Nat) (mI tI : Int) (hmI : mI = (most : Int)) (htI : tI = (top : Int)) (hm0 : 2 ≤ most) (hm1 : most ≤ 10) (ht1 : top < 128) (ht2 : most = 10 → top ≤ 1) (hlen : rs.length ≤ 140737488355328) :
    Calls Tryz.prog 157 #[.pointer (some ⟨t, 0, none⟩), .int .i64 mI, .int .u8 tI] w fun e w' => e = .returned (.int .u64 ((look most top 0 rs 0).1 : Int)) ∧ Item w' t rv ((look most top 0 rs 0).2.1 : Int) ((look most top 0 rs 0).2.2 : Int) ∧ Only t w w' := by
  subst hmI
  subst htI
  obtain ⟨ao, c, hf⟩ := hr.form
  subst hf
  have HR : Hid (Reads w (.slice ao rs.length c) rs) := hr
  have HI : Hid (Item w t (.slice ao rs.length c) 0 0) := hI
  have c0 : w.cell? ⟨t, 0, none⟩ = some (.slice ao rs.length c) := by rw [cell_at hI]; rfl
  have c1 : w.cell? ⟨t, 1, none⟩ = some (.int .i64 0) := by rw [cell_at hI]; rfl
  have c2 : w.cell? ⟨t, 2, none⟩ = some (.int .i64 0) := by rw [cell_at hI]; rfl
  have f1 := free_at hI 1
  have f2 := free_at hI 2
  have HT2 : Hid _ := ht2
  clear hr hI ht2
  go_enter Tryz.func157, Tryz.ntmps157
  go_wp2
  go_loop [7, 15] (fun nv iv => ∃ (k acc : Nat), k ≤ rs.length ∧ k < most ∧ iv = .int .i64 (k : Int) ∧ nv = .int .u64 (acc : Int) ∧ acc < 128 ^ k ∧ Hid (look most top k (rs.drop k) acc = look most top 0 rs 0)) (fun _ iv => rs.length - (intOf iv).toNat)
  case atStart => exact ⟨0, 0, by omega, by omega, rfl, rfl, by simp, rfl⟩
  case round =>
    obtain ⟨k, acc, hk, hkm, rfl, rfl, hacc, hlook⟩ := hrel
    by_cases hlt : k < rs.length
    · obtain ⟨g, o, hao, hcell⟩ := HR.out.at k hlt
      have HL := look_at most top k acc rs hlt
      rw [hlook.out] at HL
      have hx : (rs.getD k 0).toNat < 256 := (rs.getD k 0).toNat_lt
      generalize (rs.getD k 0).toNat = x at HL hcell hx
      have HA : Hid (acc < 128 ^ k) := hacc
      have HLL : Hid _ := HL
      clear hlook HL hacc
      subst hao
      by_cases hA : k + 1 = most ∧ top < x
      · have hb : ((k : Int) == (most : Int) - 1) = true := by simp; omega
        have hgt : (top : Int) < (x : Int) := by omega
        have F := HLL.out
        rw [if_pos hA] at F
        have FF : Hid _ := F
        clear F hA HLL
        go_wp2
        go_ret
        exact ⟨ret_int (by rw [FF.out]; rfl), by rw [FF.out]; exact item_err HI.out 11⟩
      · have F := HLL.out
        rw [if_neg hA] at F
        have OF : Hid _ := or_form acc x k most top hx HA.out hkm hm1 HT2.out hA
        have AL : Hid _ := acc_lt acc x k most top HA.out hkm hm1 HT2.out hA
        by_cases hB : 128 ≤ x
        · have hne : k + 1 ≠ most := fun e => hA ⟨e, by omega⟩
          have hb : ((k : Int) == (most : Int) - 1) = false := by simp; omega
          have hh := and_yes x hx hB
          rw [if_pos hB] at F
          have FF : Hid _ := F
          clear F hA HLL
          go_wp2
          go_round
          case rel => exact ⟨k + 1, _, by omega, by omega, by go_num, congrArg (Value.int .u64) OF.out, AL.out.2.1 (by omega), FF.out.symm⟩
          case measure => simp [intOf]; omega
        · have hh := and_no x hx (by omega)
          rw [if_neg hB] at F
          by_cases hC : x = 0 ∧ 0 < k
          · rw [if_pos hC] at F
            have FF : Hid _ := F
            clear F hA HLL OF AL
            obtain ⟨rfl, hk0⟩ := hC
            by_cases hne : k + 1 = most
            · have hb : ((k : Int) == (most : Int) - 1) = true := by simp; omega
              clear hne
              go_wp2
              go_ret
              exact ⟨ret_int (by rw [FF.out]; rfl), by rw [FF.out]; exact item_err HI.out 12⟩
            · have hb : ((k : Int) == (most : Int) - 1) = false := by simp; omega
              clear hne
              go_wp2
              go_ret
              exact ⟨ret_int (by rw [FF.out]; rfl), by rw [FF.out]; exact item_err HI.out 12⟩
          · rw [if_neg hC] at F
            have FF : Hid _ := F
            have HC : Hid _ := hC
            have HAA : Hid _ := hA
            clear F hA HLL hC
            by_cases hne : k + 1 = most
            · have hb : ((k : Int) == (most : Int) - 1) = true := by simp; omega
              have hle : x ≤ top := by
                by_cases h : x ≤ top
                · exact h
                · exact absurd ⟨hne, by omega⟩ HAA.out
              have hx0 : x ≠ 0 := fun e => HC.out ⟨e, by omega⟩
              have hb2 : ((x : Int) == 0) = false := by simp; omega
              clear hne hx0
              go_wp2
              go_ret
              exact ⟨ret_int (by rw [FF.out]; exact OF.out), by rw [FF.out]; exact item_size HI.out _⟩
            · have hb : ((k : Int) == (most : Int) - 1) = false := by simp; omega
              clear hne
              by_cases hx0 : x = 0
              · have hk0 : k = 0 := by
                  by_cases h : k = 0
                  · exact h
                  · exact absurd ⟨hx0, by omega⟩ HC.out
                have hb2 : ((x : Int) == 0) = true := by simp; omega
                have hk1 : (k : Int) ≤ 0 := by omega
                clear hx0 hk0
                go_wp2
                go_ret
                exact ⟨ret_int (by rw [FF.out]; exact OF.out), by rw [FF.out]; exact item_size HI.out _⟩
              · have hb2 : ((x : Int) == 0) = false := by simp; omega
                clear hx0
                go_wp2
                go_ret
                exact ⟨ret_int (by rw [FF.out]; exact OF.out), by rw [FF.out]; exact item_size HI.out _⟩
    · have hkl : k = rs.length := by omega
      have F := hlook.out
      rw [hkl, List.drop_length, look] at F
      have FF : Hid _ := F.symm
      clear F hkl
      go_wp2
      go_ret
      exact ⟨ret_int (by rw [FF.out]; rfl), by rw [FF.out]; exact item_err HI.out 10⟩

end Go.Proofs.YthoppemjfdnibaaGreatDoor

namespace Go.Proofs.YthoppemjfdnibaaGreatDoor
open Go.RowKit
set_option linter.unusedVariables false

theorem Reads.cut {w : World} {ao : Option Addr} {c size : Nat} {rs : List UInt8} (h : Reads w (.slice ao rs.length c) rs) (hs : size ≤ rs.length) :
    Reads w (.slice (if c = size then ao else ao.map (·.add size)) (rs.length - size) (c - size)) (rs.drop size) ∧ ∀ k, Value.ownBlock (.slice (if c = size then ao else ao.map (·.add size)) (rs.length - size) (c - size)) = some k → Value.ownBlock (.slice ao rs.length c) = some k := by
  obtain ⟨ao', c', e, hc, hcase⟩ := h
  simp only [Value.slice.injEq] at e
  obtain ⟨rfl, _, rfl⟩ := e
  have hl : rs.length - size = (rs.drop size).length := by simp
  rw [hl]
  rcases hcase with ⟨rfl, rfl, rfl⟩ | ⟨g, o, rfl, hg, hcell⟩
  · have : size = 0 := by simpa using hs
    subst this
    exact ⟨⟨none, 0, by simp, by simp, Or.inl ⟨rfl, by simp, rfl⟩⟩, fun k hk => by simpa using hk⟩
  · by_cases hcs : c = size
    · rw [if_pos hcs]
      refine ⟨⟨_, _, rfl, by simp; omega, Or.inr ⟨g, o, rfl, hg, fun j u hu => ?_⟩⟩, fun k hk => by simpa [Value.ownBlock] using hk⟩
      have : rs.drop size = [] := List.drop_eq_nil_of_le (by omega)
      rw [this] at hu
      simp [cellsB] at hu
    · rw [if_neg hcs]
      refine ⟨⟨_, _, rfl, by simp; omega, Or.inr ⟨g, o + size, by simp [Addr.add_lit], hg, fun j u hu => ?_⟩⟩, fun k hk => by simpa [Value.ownBlock, Addr.add_lit] using hk⟩
      have := hcell (size + j) u (by rw [← hu]; simp [cellsB])
      rw [Nat.add_assoc]
      exact this

set_option maxHeartbeats 1600000 in
set_option maxRecDepth 1000000 in
theorem end_bad {w : World} {b t : Nat} {D : Option Nat} {rv rvt : Value} {rs : List UInt8} {place : Nat} {err size e0 : Int} (u : FrameMode) (h : Rd w b D rv rs place err) (hI : Item w t rvt size e0) (he : e0 ≠ 0) :
    CallsD Tryz.prog 137 #[.pointer (some ⟨b, 0, none⟩), .pointer (some ⟨t, 0, none⟩)] u w fun e u' w' => u' = u ∧ (e = .returned (.tuple #[]) ∧ (∃ rv', Rd w' b D rv' [] place (keepE err e0)) ∧ Only b w w') := by
  have c2 : w.cell? ⟨t, 2, none⟩ = some (.int .i64 e0) := by rw [cell_at hI]; rfl
  have hb : (e0 != 0) = true := by simpa using he
  have HH : Hid _ := h
  clear h hI
  go_enter_d Tryz.func137, Tryz.ntmps137
  go_wp2_with fail
  refine (rfail_any HH.out e0 he).mono ?_
  rintro e w1 ⟨rfl, h1, h2⟩
  have H1 : Hid _ := h1
  have H2 : Hid _ := h2
  clear h1 h2
  go_wp2
  refine bodyPost_ret (results_none rfl _ _ _) rfl ?_
  exact ⟨rfl, H1.out, H2.out⟩

theorem Rd.drew {w : World} {b : Nat} {D : Option Nat} {rv : Value} {rs : List UInt8} {place : Nat} {err : Int} (h : Rd w b D rv rs place err) : Rd w.drew b D rv rs place err := h.kept (Nat.le_refl _) rfl (fun _ _ => rfl)

theorem end_after {w : World} {b : Nat} {D : Option Nat} {rv rv' : Value} {rs rs' : List UInt8} {place : Nat} {err : Int} (h : Rd w b D rv rs place err) (hr : Reads w rv' rs') (ho : ∀ k, rv'.ownBlock = some k → rv.ownBlock = some k) (he : err ≠ 0 → rs' = []) (size : Nat) :
    Rd ((w.setCell ⟨b, 0, none⟩ rv').setCell ⟨b, 1, none⟩ (.int .i64 ((place : Int) + (size : Int)))) b D rv' rs' (place + size) err ∧ Only b w ((w.setCell ⟨b, 0, none⟩ rv').setCell ⟨b, 1, none⟩ (.int .i64 ((place : Int) + (size : Int)))) := by
  have O : Only b w ((w.setCell ⟨b, 0, none⟩ rv').setCell ⟨b, 1, none⟩ (.int .i64 ((place : Int) + (size : Int)))) := (Only.setCell w 0 _).trans (Only.setCell _ 1 _)
  refine ⟨⟨?_, ?_, fun k hk => h.own k (ho k hk), h.apart, he, fun k hk => Nat.lt_of_lt_of_le (h.old k hk) O.size⟩, O⟩
  · rw [heap_setCell_same (heap_setCell_same h.box _)]; rfl
  · exact hr.only O (fun e => h.apart (h.own b (ho b e)))

set_option maxHeartbeats 1600000 in
set_option maxRecDepth 1000000 in
theorem end_good {w : World} {b t : Nat} {D : Option Nat} {rv rvt : Value} {rs : List UInt8} {place : Nat} {err : Int} {size : Nat} (u : FrameMode) (h : Rd w b D rv rs place err) (hI : Item w t rvt (size : Int) 0) (htb : t ≠ b) (hs : size ≤ rs.length) (hp : place + rs.length ≤ 140737488355328) :
    CallsD Tryz.prog 137 #[.pointer (some ⟨b, 0, none⟩), .pointer (some ⟨t, 0, none⟩)] u w fun e u' w' => u' = u ∧ (e = .returned (.tuple #[]) ∧ (∃ rv', Rd w' b D rv' (rs.drop size) (place + size) err) ∧ Only b w w') := by
  obtain ⟨ao, c, hf⟩ := h.reads.form
  subst hf
  have hlc : rs.length ≤ c := by
    obtain ⟨_, _, e, hc, _⟩ := h.reads
    simp only [Value.slice.injEq] at e
    omega
  have c2 : w.cell? ⟨t, 2, none⟩ = some (.int .i64 0) := by rw [cell_at hI]; rfl
  have c1 : w.cell? ⟨t, 1, none⟩ = some (.int .i64 (size : Int)) := by rw [cell_at hI]; rfl
  have d0 : w.cell? ⟨b, 0, none⟩ = some (.slice ao rs.length c) := by rw [cell_at h.box]; rfl
  have d1 : w.cell? ⟨b, 1, none⟩ = some (.int .i64 (place : Int)) := by rw [cell_at h.box]; rfl
  have f0 := free_at h.box 0
  have f1 := free_at h.box 1
  have HH : Hid _ := h
  have RC : Hid _ := h.reads.cut hs
  have hbr : err ≠ 0 → rs.drop size = [] := fun e => by rw [h.broken e]; simp
  clear h hI
  by_cases hcs : c = size
  · subst hcs
    have e0 : rs.length - c = 0 := by omega
    have R : Hid _ := end_after (rv' := .slice ao 0 0) HH.out (by simpa [e0] using RC.out.1) (by simpa [e0] using RC.out.2) hbr c
    clear e0
    clear hbr
    go_enter_d Tryz.func137, Tryz.ntmps137
    go_wp2
    go_region
    go_wp2
    go_region
    go_wp2
    go_end0
    exact ⟨rfl, ⟨_, R.out.1.drew.drew⟩, (R.out.2.trans (Only.drew _ _)).trans (Only.drew _ _)⟩
  · have R : Hid _ := end_after HH.out (by simpa [hcs] using RC.out.1) (by simpa [hcs] using RC.out.2) hbr size
    clear hbr
    go_enter_d Tryz.func137, Tryz.ntmps137
    go_wp2
    go_region
    go_wp2
    go_region
    go_wp2
    go_end0
    exact ⟨rfl, ⟨_, R.out.1.drew.drew⟩, (R.out.2.trans (Only.drew _ _)).trans (Only.drew _ _)⟩
end Go.Proofs.YthoppemjfdnibaaGreatDoor

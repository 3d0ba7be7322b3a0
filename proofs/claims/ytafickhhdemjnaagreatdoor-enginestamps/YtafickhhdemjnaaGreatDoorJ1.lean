import Derived.Test.YtafickhhdemjnaaGreatDoorRows
import Derived.WalkKit
import Derived.WalkSpells
import Derived.WalkLawsBesides
import Derived.Maps.AppendAt
import Derived.Laws.AppendOwnNone
import Derived.Defers
namespace Go.Proofs.YtafickhhdemjnaaGreatDoor
open Go.RowKit
set_option linter.unusedVariables false

/-- Bytes as cells. -/
def cellsB (l : List UInt8) : List Value := l.map fun b => Value.int .u8 (b.toNat : Int)

theorem cellsB_length (l : List UInt8) : (cellsB l).length = l.length := by simp [cellsB]
theorem cellsB_append (a b : List UInt8) : cellsB (a ++ b) = cellsB a ++ cellsB b := by simp [cellsB]
theorem cellsB_one (l : List UInt8) : ∀ u ∈ cellsB l, u.oneCell' = true := by
  intro u hu
  obtain ⟨_, _, rfl⟩ := List.mem_map.1 hu
  rfl

/-- A slice of bytes, read in a world. -/
def Reads (w : World) (s : Value) (l : List UInt8) : Prop :=
  ∃ ao c, s = .slice ao l.length c ∧ l.length ≤ c ∧ ((ao = none ∧ l = [] ∧ c = 0) ∨ ∃ g o, ao = some ⟨g, o, none⟩ ∧ g < w.heap.size ∧ ∀ j u, (cellsB l)[j]? = some u → w.cell? ⟨g, o + j, none⟩ = some u)

/-- A writer that is whole. -/
structure Wr (w : World) (b : Nat) (v : Value) (bs : List UInt8) : Prop where
  box : w.heap[b]? = some (.cells #[v, .bool false] 249 (0, 0))
  row : w.ownsRow (b + 1) 5 1 v bs.length (cellsB bs)

/-- What a step of a writer may turn. -/
structure WStep (b : Nat) (w : World) (v : Value) (w' : World) (v' : Value) : Prop where
  os : w'.os = w.os
  tape : w'.tape = w.tape
  output : w'.output = w.output
  size : w.heap.size ≤ w'.heap.size
  block : ∀ k, k < w.heap.size → k ≠ b → some k ≠ v.ownBlock → w'.heap[k]? = w.heap[k]?
  own : ∀ k, v'.ownBlock = some k → v.ownBlock = some k ∨ w.heap.size ≤ k

theorem WStep.refl (b : Nat) (w : World) (v : Value) : WStep b w v w v := ⟨rfl, rfl, rfl, Nat.le_refl _, fun _ _ _ _ => rfl, fun _ h => Or.inl h⟩

theorem WStep.trans {b : Nat} {w w' w'' : World} {v v' v'' : Value} (h : WStep b w v w' v') (k : WStep b w' v' w'' v'') : WStep b w v w'' v'' := by
  refine ⟨k.os.trans h.os, k.tape.trans h.tape, k.output.trans h.output, Nat.le_trans h.size k.size, ?_, ?_⟩
  · intro i hi hb hv
    rw [k.block i (Nat.lt_of_lt_of_le hi h.size) hb ?_, h.block i hi hb hv]
    intro x
    rcases h.own i x.symm with e | e
    · exact hv e.symm
    · omega
  · intro q e
    rcases k.own q e with e | e
    · exact h.own q e
    · exact Or.inr (Nat.le_trans h.size e)

theorem Wr.lt {w : World} {b : Nat} {v : Value} {bs : List UInt8} (h : Wr w b v bs) : b < w.heap.size := (Array.getElem?_eq_some_iff.1 h.box).1

/-- The value's shape. -/
theorem Wr.form {w : World} {b : Nat} {v : Value} {bs : List UInt8} (h : Wr w b v bs) : ∃ ao cap, v = .slice ao bs.length cap := by
  rcases h.row.2 with ⟨rfl, e⟩ | ⟨g, cap, _, rfl, _⟩
  · exact ⟨none, 0, by rw [e]⟩
  · exact ⟨_, cap, rfl⟩

/-- A block of two or three cells, by its cells. -/
theorem cell_at {w : World} {b : Nat} {cs : Array Value} {t : TypeId} {fr : Nat × Nat} (h : w.heap[b]? = some (.cells cs t fr)) (j : Nat) : w.cell? ⟨b, j, none⟩ = cs[j]? := by
  simp [World.cell?, h]

theorem free_at {w : World} {b : Nat} {cs : Array Value} {t : TypeId} (h : w.heap[b]? = some (.cells cs t (0, 0))) (j : Nat) : w.frozen? ⟨b, j, none⟩ = false := by
  simp [World.frozen?, h]

theorem heap_setCell_same {w : World} {b j : Nat} {cs : Array Value} {t : TypeId} {fr : Nat × Nat} (h : w.heap[b]? = some (.cells cs t fr)) (u : Value) :
    (w.setCell ⟨b, j, none⟩ u).heap[b]? = some (.cells (cs.setIfInBounds j u) t fr) := by
  simp [World.setCell, Array.getElem?_modify, h]

/-- A writer, whole or broken. -/
def Wst (w : World) (b : Nat) (v : Value) : Option (List UInt8) → Prop
  | some bs => Wr w b v bs
  | none => v = .slice none 0 0 ∧ w.heap[b]? = some (.cells #[v, .bool true] 249 (0, 0))

def lenS : Option (List UInt8) → Nat
  | some bs => bs.length
  | none => 0

def addS (st : Option (List UInt8)) (l : List UInt8) : Option (List UInt8) := st.map (· ++ l)

theorem addS_nil (st : Option (List UInt8)) : addS st [] = st := by cases st <;> simp [addS]
theorem addS_addS (st : Option (List UInt8)) (a b : List UInt8) : addS (addS st a) b = addS st (a ++ b) := by cases st <;> simp [addS]
theorem lenS_addS (st : Option (List UInt8)) (a : List UInt8) : lenS (addS st a) ≤ lenS st + a.length := by cases st <;> simp [addS, lenS]

theorem WStep.alloc {b : Nat} {w : World} {v : Value} (o : Obj) : WStep b w v (w.alloc o) v :=
  ⟨rfl, rfl, rfl, by simp, fun k hk _ _ => Below.heap_alloc _ _ _ hk, fun _ h => Or.inl h⟩

theorem Wst.lt {w : World} {b : Nat} {v : Value} {st : Option (List UInt8)} (h : Wst w b v st) : b < w.heap.size := by
  cases st with
  | some bs => exact Wr.lt h
  | none => exact (Array.getElem?_eq_some_iff.1 h.2).1

/-- What is not the writer's may turn as it likes. -/
theorem Wst.kept {w w' : World} {b : Nat} {v : Value} {st : Option (List UInt8)} (h : Wst w b v st) (hb : w'.heap[b]? = w.heap[b]?) (hr : ∀ k, v.ownBlock = some k → w'.heap[k]? = w.heap[k]?) : Wst w' b v st := by
  cases st with
  | none => exact ⟨h.1, by rw [hb]; exact h.2⟩
  | some bs =>
    refine ⟨by rw [hb]; exact h.box, h.row.1, ?_⟩
    rcases h.row.2 with hn | ⟨g, cap, cur, rfl, hg, hgg, rest⟩
    · exact Or.inl hn
    · exact Or.inr ⟨g, cap, cur, rfl, hg, by rw [hr g rfl]; exact hgg, rest⟩

theorem Wst.own_lt {w : World} {b : Nat} {v : Value} {st : Option (List UInt8)} (h : Wst w b v st) : ∀ k, v.ownBlock = some k → b < k ∧ k < w.heap.size := by
  intro k hk
  cases st with
  | none => rw [h.1] at hk; simp [Value.ownBlock] at hk
  | some bs => have := h.row.lt k hk; omega

theorem Wst.alloc {w : World} {b : Nat} {v : Value} {st : Option (List UInt8)} (h : Wst w b v st) (o : Obj) : Wst (w.alloc o) b v st :=
  h.kept (Below.heap_alloc _ _ _ h.lt) (fun k hk => Below.heap_alloc _ _ _ (h.own_lt k hk).2)

theorem Reads.one (w : World) (c : UInt8) (x : Int) (hx : x = (c.toNat : Int)) : Reads (w.alloc (.cells #[.int .u8 x] 5)) (.slice (some ⟨w.heap.size, 0, none⟩) 1 1) [c] := by
  subst hx
  refine ⟨_, _, rfl, by simp, Or.inr ⟨_, _, rfl, by simp, ?_⟩⟩
  intro j u hj
  match j, hj with
  | 0, hj =>
    simp [cellsB] at hj
    subst hj
    simp

theorem Reads.block {w : World} {s : Value} {l : List UInt8} (h : Reads w s l) : ∀ k, s.ownBlock = some k → k < w.heap.size := by
  obtain ⟨ao, c, rfl, _, ⟨rfl, _, _⟩ | ⟨g, o, rfl, hg, _⟩⟩ := h
  · intro k hk; simp [Value.ownBlock] at hk
  · intro k hk; simp [Value.ownBlock] at hk; omega

/-- Bytes that are read stay, where their block stays. -/
theorem Reads.kept {w w' : World} {s : Value} {l : List UInt8} (h : Reads w s l) (hsz : w.heap.size ≤ w'.heap.size) (hb : ∀ k, s.ownBlock = some k → w'.heap[k]? = w.heap[k]?) : Reads w' s l := by
  obtain ⟨ao, c, rfl, hc, hcase⟩ := h
  refine ⟨ao, c, rfl, hc, ?_⟩
  rcases hcase with hn | ⟨g, o, rfl, hg, hcell⟩
  · exact Or.inl hn
  · refine Or.inr ⟨g, o, rfl, Nat.lt_of_lt_of_le hg hsz, fun j u hu => ?_⟩
    rw [World.cell?_of_block (w := w) (hb g rfl)]
    exact hcell j u hu

theorem Reads.step {w w' : World} {s : Value} {l : List UInt8} {b : Nat} {v v' : Value} (h : Reads w s l) (hw : WStep b w v w' v') (hs : ∀ k, s.ownBlock = some k → k ≠ b ∧ v.ownBlock ≠ some k) : Reads w' s l :=
  h.kept hw.size fun k hk => hw.block k (h.block k hk) (hs k hk).1 (fun e => (hs k hk).2 e.symm)

theorem Reads.below {w w' : World} {s : Value} {l : List UInt8} (h : Reads w s l) (hw : Below w.heap.size w w') : Reads w' s l :=
  h.kept hw.size fun k hk => hw.block k (h.block k hk)

theorem Reads.of_owns {w : World} {base : Nat} {s : Value} {l : List UInt8} (h : w.ownsRow base 5 1 s l.length (cellsB l)) : Reads w s l := by
  have hc := fun g => h.cells (g := g)
  rcases h.2 with ⟨rfl, e⟩ | ⟨g, cap, cur, rfl, hg, hgg, hn, _⟩
  · exact ⟨none, 0, by rw [e], by omega, Or.inl ⟨rfl, List.eq_nil_of_length_eq_zero e, rfl⟩⟩
  · refine ⟨_, cap, rfl, hn, Or.inr ⟨g, 0, rfl, (Array.getElem?_eq_some_iff.1 hgg).1, fun j u hu => ?_⟩⟩
    have := hc g rfl j u hu
    simpa [Addr.add_lit] using this

theorem WStep.of_below {b : Nat} {w w' : World} {v : Value} (h : Below w.heap.size w w') : WStep b w v w' v :=
  ⟨h.os, h.tape, h.output, h.size, fun k hk _ _ => h.block k hk, fun _ h => Or.inl h⟩

theorem Wst.below {w w' : World} {b : Nat} {v : Value} {st : Option (List UInt8)} (h : Wst w b v st) (hw : Below w.heap.size w w') : Wst w' b v st :=
  h.kept (hw.block b h.lt) (fun k hk => hw.block k (h.own_lt k hk).2)

end Go.Proofs.YtafickhhdemjnaaGreatDoor

namespace Go.Proofs.YtafickhhdemjnaaGreatDoor
open Go.RowKit
set_option linter.unusedVariables false

theorem Tryz.info5 : (Tryz.prog.info? 5).map (fun i => (i.zero, i.size, i.bytes)) = some (some (.int .u8 0), 1, 1) := by kernel_rfl

/-- What append and the store leave. -/
theorem put_after {w w1 : World} {b : Nat} {v v' : Value} {bs news : List UInt8} (h : Wr w b v bs) (hown : w1.ownsRow (b + 1) 5 1 v' (bs.length + news.length) (cellsB bs ++ cellsB news))
    (hg : w.grownBy w1 v.ownBlock) (hat : v'.ownBlock = v.ownBlock ∨ v'.ownBlock = some w.heap.size) :
    Wr (w1.setCell ⟨b, 0, none⟩ v') b v' (bs ++ news) ∧ WStep b w v (w1.setCell ⟨b, 0, none⟩ v') v' := by
  have hb := h.lt
  have hne : some b ≠ v.ownBlock := by
    intro e
    have := (h.row.lt b e.symm).1
    omega
  have hbox : w1.heap[b]? = some (.cells #[v, .bool false] 249 (0, 0)) := by rw [hg.block b hb hne]; exact h.box
  have hs : (w1.setCell ⟨b, 0, none⟩ v').heap.size = w1.heap.size := by simp [World.setCell]
  refine ⟨⟨?_, ?_⟩, ⟨hg.os, hg.tape, hg.output, ?_, ?_, ?_⟩⟩
  · rw [heap_setCell_same hbox]; simp
  · rw [cellsB_append, List.length_append]
    exact ownsRow_setCell_below hown (by simp) v'
  · rw [hs]; exact hg.size
  · intro k hk hkb hkv
    rw [Below.heap_setCell _ _ _ _ (by simpa using hkb)]
    exact hg.block k hk hkv
  · intro k hk
    rcases hat with e | e
    · exact Or.inl (e.symm.trans hk)
    · rw [e] at hk; simp at hk; exact Or.inr (by omega)

theorem put_cell {w w1 : World} {b : Nat} {v : Value} {bs : List UInt8} (h : Wr w b v bs) (hg : w.grownBy w1 v.ownBlock) : (w1.cell? ⟨b, 0, none⟩).isSome = true ∧ w1.frozen? ⟨b, 0, none⟩ = false := by
  have hb := h.lt
  have hne : some b ≠ v.ownBlock := by
    intro e
    have := (h.row.lt b e.symm).1
    omega
  have hbox : w1.heap[b]? = some (.cells #[v, .bool false] 249 (0, 0)) := by rw [hg.block b hb hne]; exact h.box
  exact ⟨by rw [cell_at hbox]; rfl, free_at hbox 0⟩

set_option maxHeartbeats 800000 in
set_option maxRecDepth 1000000 in
/-- put, of a slice that has an address. -/
theorem put_some {w : World} {b : Nat} {v : Value} {bs news : List UInt8} (h : Wr w b v bs) (g o c : Nat) (hc : ∀ j u, (cellsB news)[j]? = some u → w.cell? ((⟨g, o, none⟩ : Addr).add j) = some u)
    (hlen : bs.length + news.length ≤ 140737488355328) :
    Calls Tryz.prog 214 #[.pointer (some ⟨b, 0, none⟩), .slice (some ⟨g, o, none⟩) news.length c] w fun e w' => e = .returned (.tuple #[]) ∧ ∃ v', Wr w' b v' (bs ++ news) ∧ WStep b w v w' v' := by
  obtain ⟨i0, hi, hz0, hz1, hz2⟩ := info_parts Tryz.info5
  obtain ⟨ao, cap, rfl⟩ := h.form
  have c0 : w.cell? ⟨b, 0, none⟩ = some (.slice ao bs.length cap) := by rw [cell_at h.box]; rfl
  have c1 : w.cell? ⟨b, 1, none⟩ = some (.bool false) := by rw [cell_at h.box]; rfl
  have H := h
  have hlt := h.lt
  have hrow := h.row
  have HH : Hid (Wr w b (.slice ao bs.length cap) bs) := H
  clear H h
  go_enter Tryz.func214, Tryz.ntmps214
  go_wp2_with (at_builtin; refine wpList_append_own_at _ rfl (.tmp 13) (.tmp 14) 76 rfl (b + 1) 5 i0 (.int .u8 0) 1 1 Tryz.underlying76 hi hz0 hz1 hz2 rfl (by decide) _ _ _ rfl hrow ⟨g, o, none⟩ news.length c (cellsB news) rfl (by rw [cellsB_length]; omega) hc (cellsB_one _) (by unfold maxLen; omega) (by omega) (by omega) ?_)
  intro v' w1 hown hg hnil hat
  have R := put_after HH.out hown hg hat
  have k0 : (w1.cell? ⟨b, 0, none⟩).isSome = true ∧ w1.frozen? ⟨b, 0, none⟩ = false := put_cell HH.out hg
  obtain ⟨k0, k1⟩ := k0
  obtain ⟨u0, k0⟩ := Option.isSome_iff_exists.1 k0
  obtain ⟨ao', cap', hv⟩ : ∃ ao' cap', v' = .slice ao' (bs.length + news.length) cap' := by
    rcases hown.2 with ⟨e, h0⟩ | ⟨g, cap', _, e, _⟩
    · exact ⟨none, 0, by rw [e, h0]⟩
    · exact ⟨_, cap', e⟩
  clear hown hg hat hnil c0 c1 hrow
  rw [hv] at R ⊢
  clear hv
  have R' := R; clear R
  have RR : Hid _ := R'; clear R'
  go_wp2
  go_end0
  exact ⟨rfl, _, RR.out⟩
set_option maxHeartbeats 800000 in
set_option maxRecDepth 1000000 in
/-- put, of nil. -/
theorem put_none {w : World} {b : Nat} {v : Value} {bs : List UInt8} (h : Wr w b v bs) :
    Calls Tryz.prog 214 #[.pointer (some ⟨b, 0, none⟩), .slice none 0 0] w fun e w' => e = .returned (.tuple #[]) ∧ ∃ v', Wr w' b v' bs ∧ WStep b w v w' v' := by
  obtain ⟨i0, hi, hz0, hz1, hz2⟩ := info_parts Tryz.info5
  obtain ⟨ao, cap, rfl⟩ := h.form
  have c0 : w.cell? ⟨b, 0, none⟩ = some (.slice ao bs.length cap) := by rw [cell_at h.box]; rfl
  have c1 : w.cell? ⟨b, 1, none⟩ = some (.bool false) := by rw [cell_at h.box]; rfl
  have f0 := free_at h.box 0
  have R := put_after (news := []) h (w1 := w) (v' := .slice ao bs.length cap) (by simpa [cellsB] using h.row) ⟨rfl, rfl, rfl, Nat.le_refl _, fun _ _ _ => rfl⟩ (Or.inl rfl)
  rw [List.append_nil] at R
  have RR : Hid _ := R; clear R
  have hrow := h.row
  clear h
  go_enter Tryz.func214, Tryz.ntmps214
  go_wp2_with (at_builtin; refine wpList_append_own_none rfl (.tmp 13) (.tmp 14) 76 rfl (b + 1) 5 i0 1 Tryz.underlying76 hi _ _ _ rfl hrow rfl ?_)
  go_end0
  exact ⟨rfl, _, RR.out⟩

set_option maxHeartbeats 800000 in
set_option maxRecDepth 1000000 in
/-- put of a broken writer. -/
theorem put_broken {w : World} {b : Nat} {v : Value} (s : Value) (h : Wst w b v none) :
    Calls Tryz.prog 214 #[.pointer (some ⟨b, 0, none⟩), s] w fun e w' => e = .returned (.tuple #[]) ∧ w' = w := by
  have c1 : w.cell? ⟨b, 1, none⟩ = some (.bool true) := by rw [cell_at h.2]; rfl
  clear h
  go_enter Tryz.func214, Tryz.ntmps214
  go_wp2
  go_end0
  exact ⟨rfl, rfl⟩

/-- put, of whatever. -/
theorem put_any {w : World} {b : Nat} {v : Value} {st : Option (List UInt8)} (h : Wst w b v st) {s : Value} {l : List UInt8} (hs : Reads w s l) (hlen : lenS st + l.length ≤ 140737488355328) :
    Calls Tryz.prog 214 #[.pointer (some ⟨b, 0, none⟩), s] w fun e w' => e = .returned (.tuple #[]) ∧ ∃ v', Wst w' b v' (addS st l) ∧ WStep b w v w' v' := by
  cases st with
  | none =>
    refine (put_broken s h).mono ?_
    rintro e w' ⟨rfl, rfl⟩
    exact ⟨rfl, v, h, WStep.refl _ _ _⟩
  | some bs =>
    obtain ⟨ao, c, rfl, hc, hcase⟩ := hs
    rcases hcase with ⟨rfl, rfl, rfl⟩ | ⟨g, o, rfl, hg, hcell⟩
    · refine (put_none h).mono ?_
      rintro e w' ⟨rfl, v', h1, h2⟩
      exact ⟨rfl, v', by simpa [addS, Wst] using h1, h2⟩
    · refine (put_some h g o c (by simpa [Addr.add_lit] using hcell) (by simpa [lenS] using hlen)).mono ?_
      rintro e w' ⟨rfl, v', h1, h2⟩
      exact ⟨rfl, v', by simpa [addS, Wst] using h1, h2⟩

end Go.Proofs.YtafickhhdemjnaaGreatDoor

namespace Go.Proofs.YtafickhhdemjnaaGreatDoor
set_option linter.unusedVariables false

/-- A number in groups of seven bits, the lowest first; the first number is how many groups may follow. -/
def enc : Nat → Nat → List UInt8
  | 0, n => [UInt8.ofNat n]
  | f + 1, n => if n < 128 then [UInt8.ofNat n] else UInt8.ofNat (n % 128 + 128) :: enc f (n / 128)

theorem enc_small (f n : Nat) (h : n < 128) : enc f n = [UInt8.ofNat n] := by cases f <;> simp [enc, h]
theorem enc_step (f n : Nat) (h : ¬ n < 128) : enc (f + 1) n = UInt8.ofNat (n % 128 + 128) :: enc f (n / 128) := by simp [enc, h]
theorem enc_len (f n : Nat) : (enc f n).length ≤ f + 1 := by
  induction f generalizing n with
  | zero => simp [enc]
  | succ f ih =>
    unfold enc
    split
    · simp
    · simp; exact ih _

set_option maxRecDepth 100000 in
theorem or128 (x : Nat) : x % 256 ||| 128 = x % 128 + 128 := by
  have h : ∀ y : Fin 256, y.val ||| 128 = y.val % 128 + 128 := by decide +kernel
  have := h ⟨x % 256, by omega⟩
  simp only at this
  rw [this]
  omega

theorem toNat_of128 (x : Nat) : (UInt8.ofNat (x % 128 + 128)).toNat = x % 128 + 128 := by simp; omega
theorem toNat_small (x : Nat) (h : x < 128) : (UInt8.ofNat x).toNat = x := by simp; omega

theorem xor_ones (x : Nat) (h : x < 2 ^ 64) : (2 ^ 64 - 1) ^^^ x = 2 ^ 64 - (x + 1) := by
  apply Nat.eq_of_testBit_eq
  intro i
  rw [Nat.testBit_xor, Nat.testBit_two_pow_sub_one, Nat.testBit_two_pow_sub_succ h]
  by_cases hi : i < 64
  · simp [hi]
  · have : x.testBit i = false := Nat.testBit_lt_two_pow (Nat.lt_of_lt_of_le h (Nat.pow_le_pow_right (by omega) (by omega)))
    simp [hi, this]

/-- The number that Signed writes. -/
def foldN (n : Int) : Nat := if n < 0 then (-(n + 1)).toNat * 2 + 1 else n.toNat * 2

/-- A number read from its place on: the number, how many bytes, the error. -/
def look (most top : Nat) : Nat → List UInt8 → Nat → Nat × Nat × Nat
  | _, [], _ => (0, 0, 10)
  | k, c :: r, acc =>
    if k + 1 = most ∧ top < c.toNat then (0, 0, 11)
    else if 128 ≤ c.toNat then look most top (k + 1) r (acc + c.toNat % 128 * 128 ^ k)
    else if c.toNat = 0 ∧ 0 < k then (0, 0, 12)
    else (acc + c.toNat % 128 * 128 ^ k, k + 1, 0)

theorem look_at (most top k acc : Nat) (rs : List UInt8) (hk : k < rs.length) : look most top k (rs.drop k) acc =
    if k + 1 = most ∧ top < (rs.getD k 0).toNat then (0, 0, 11)
    else if 128 ≤ (rs.getD k 0).toNat then look most top (k + 1) (rs.drop (k + 1)) (acc + (rs.getD k 0).toNat % 128 * 128 ^ k)
    else if (rs.getD k 0).toNat = 0 ∧ 0 < k then (0, 0, 12)
    else (acc + (rs.getD k 0).toNat % 128 * 128 ^ k, k + 1, 0) := by
  have e : rs.drop k = rs.getD k 0 :: rs.drop (k + 1) := by
    rw [List.drop_eq_getElem_cons hk]
    simp [List.getD, hk]
  rw [e, look]

theorem and127 (x : Nat) (h : x < 256) : x &&& (255 - 128) = x % 128 := by
  have := Nat.and_two_pow_sub_one_eq_mod x 7
  simpa using this

set_option maxRecDepth 100000 in
theorem and128 (x : Nat) (h : x < 256) : x &&& 128 = if 128 ≤ x then 128 else 0 := by
  have h' : ∀ y : Fin 256, y.val &&& 128 = if 128 ≤ y.val then 128 else 0 := by decide +kernel
  exact h' ⟨x, h⟩

/-- Bits that lie above those of a number are added. -/
theorem or_add (acc y k : Nat) (h : acc < 128 ^ k) : acc ||| y * 128 ^ k = acc + y * 128 ^ k := by
  have e : (128 : Nat) ^ k = 2 ^ (7 * k) := by rw [Nat.pow_mul]
  rw [e] at h ⊢
  have := Nat.two_pow_add_eq_or_of_lt h y
  rw [Nat.or_comm, Nat.mul_comm y, ← this]
  omega

theorem pow_le (k : Nat) (h : k ≤ 9) : 128 ^ k ≤ 9223372036854775808 := by
  have : (128 : Nat) ^ k ≤ 128 ^ 9 := Nat.pow_le_pow_right (by omega) h
  have e : (128 : Nat) ^ 9 = 9223372036854775808 := by decide
  omega

/-- What is gathered stays within 64 bits. -/
theorem acc_lt (acc x k most top : Nat) (h : acc < 128 ^ k) (hk : k < most) (hm : most ≤ 10) (ht2 : most = 10 → top ≤ 1) (hw : ¬ (k + 1 = most ∧ top < x)) :
    acc + x % 128 * 128 ^ k < 18446744073709551616 ∧ (k + 1 < most → acc + x % 128 * 128 ^ k < 128 ^ (k + 1)) ∧ x % 128 * 128 ^ k < 18446744073709551616 := by
  have h1 : x % 128 * 128 ^ k ≤ 127 * 128 ^ k := Nat.mul_le_mul_right _ (by omega)
  have h2 : (128 : Nat) ^ (k + 1) = 128 * 128 ^ k := by rw [Nat.pow_succ]; omega
  by_cases hk9 : k = 9
  · have hm10 : most = 10 := by omega
    have := ht2 hm10
    have hx : x ≤ 1 := by
      by_cases hx : x ≤ 1
      · exact hx
      · exact absurd ⟨by omega, by omega⟩ hw
    have h3 : x % 128 * 128 ^ k ≤ 1 * 128 ^ k := Nat.mul_le_mul_right _ (by omega)
    subst hk9
    have e : (128 : Nat) ^ 9 = 9223372036854775808 := by decide
    omega
  · have := pow_le (k + 1) (by omega)
    omega

theorem look_bound (most top : Nat) (hm : most ≤ 10) (ht1 : top < 128) (ht2 : most = 10 → top ≤ 1) (l : List UInt8) : ∀ (k acc : Nat), k < most → acc < 128 ^ k →
    (look most top k l acc).1 < 18446744073709551616 ∧ (most ≤ 9 → (look most top k l acc).1 < 9223372036854775808) ∧ (look most top k l acc).2.1 ≤ k + l.length ∧ ((look most top k l acc).2.2 ≠ 0 → (look most top k l acc).1 = 0 ∧ (look most top k l acc).2.1 = 0) ∧ (look most top k l acc).2.2 ≤ 12 ∧ ((look most top k l acc).2.2 = 0 → k < (look most top k l acc).2.1) := by
  induction l with
  | nil => intro k acc _ _; simp [look]
  | cons c r ih =>
    intro k acc hk hacc
    unfold look
    by_cases hA : k + 1 = most ∧ top < c.toNat
    · rw [if_pos hA]; simp
    · rw [if_neg hA]
      have ha := acc_lt acc c.toNat k most top hacc hk hm ht2 hA
      by_cases hB : 128 ≤ c.toNat
      · rw [if_pos hB]
        by_cases hlast : k + 1 < most
        · have := ih (k + 1) _ hlast (ha.2.1 hlast)
          simp only [List.length_cons]
          omega
        · exfalso
          have : ¬ top < c.toNat := fun h => hA ⟨by omega, h⟩
          omega
      · rw [if_neg hB]
        by_cases hC : c.toNat = 0 ∧ 0 < k
        · rw [if_pos hC]; simp
        · rw [if_neg hC]
          refine ⟨ha.1, fun h9 => ?_, by simp only [List.length_cons]; omega, by simp, by simp, by simp⟩
          by_cases hlast : k + 1 < most
          · have := ha.2.1 hlast
            have := pow_le (k + 1) (by omega)
            simp only
            omega
          · have h1 : c.toNat % 128 * 128 ^ k ≤ 127 * 128 ^ k := Nat.mul_le_mul_right _ (by omega)
            have h2 : (128 : Nat) ^ (k + 1) = 128 * 128 ^ k := by rw [Nat.pow_succ]; omega
            have := pow_le (k + 1) (by omega)
            simp only
            omega

/-- The first error stays. -/
def keepE (err e : Int) : Int := if err = 0 then e else err

/-- What a reader has behind an item: the rest, the place, the error. -/
def aft (rs : List UInt8) (place : Nat) (err : Int) (size : Nat) (e : Int) : List UInt8 × Nat × Int :=
  if e = 0 then (rs.drop size, place + size, err) else ([], place, keepE err e)

/-- A number that is not above a bound: the number, how many bytes, the error. -/
def numR (rs : List UInt8) (most above : Int) : Int × Nat × Int :=
  if (look 9 127 0 rs 0).2.2 = 0 then
    if most < ((look 9 127 0 rs 0).1 : Int) then (0, (look 9 127 0 rs 0).2.1, above) else ((look 9 127 0 rs 0).1, (look 9 127 0 rs 0).2.1, 0)
  else (0, (look 9 127 0 rs 0).2.1, (look 9 127 0 rs 0).2.2)

theorem numR_eq (rs : List UInt8) (most above : Int) : numR rs most above = if (look 9 127 0 rs 0).2.2 = 0 then
    if most < ((look 9 127 0 rs 0).1 : Int) then ((0 : Int), (look 9 127 0 rs 0).2.1, above) else (((look 9 127 0 rs 0).1 : Int), (look 9 127 0 rs 0).2.1, (0 : Int))
  else ((0 : Int), (look 9 127 0 rs 0).2.1, ((look 9 127 0 rs 0).2.2 : Int)) := rfl

theorem numR_size (rs : List UInt8) (most above : Int) : (numR rs most above).2.1 ≤ rs.length := by
  have h := (look_bound 9 127 (by omega) (by omega) (by omega) rs 0 0 (by omega) (by simp)).2.2.1
  unfold numR
  split
  · split <;> simp only <;> omega
  · simp only; omega

theorem numR_val (rs : List UInt8) (most above : Int) : 0 ≤ (numR rs most above).1 ∧ (numR rs most above).1 < 9223372036854775808 ∧ ((numR rs most above).2.2 ≠ 0 → (numR rs most above).1 = 0) := by
  have h := (look_bound 9 127 (by omega) (by omega) (by omega) rs 0 0 (by omega) (by simp)).2.1 (by omega)
  unfold numR
  split
  · split <;> simp <;> omega
  · simp

/-- The number that Signed reads. -/
def unfoldN (n : Nat) : Int := if n % 2 = 1 then -((n / 2 : Nat) : Int) - 1 else ((n / 2 : Nat) : Int)

/-- A truth: itself, how many bytes, the error. -/
def truthR : List UInt8 → Bool × Nat × Int
  | [] => (false, 0, 10)
  | c :: _ => if 1 < c.toNat then (false, 0, 12) else (c.toNat == 1, 1, 0)

/-- Bytes behind their number. -/
def runR (rs : List UInt8) (most : Int) : List UInt8 × Nat × Int :=
  if (numR rs most 14).2.2 = 0 then
    if ((rs.length - (numR rs most 14).2.1 : Nat) : Int) < (numR rs most 14).1 then ([], (numR rs most 14).2.1, 10)
    else ((rs.drop (numR rs most 14).2.1).take (numR rs most 14).1.toNat, (numR rs most 14).2.1 + (numR rs most 14).1.toNat, 0)
  else ([], (numR rs most 14).2.1, (numR rs most 14).2.2)

theorem runR_eq (rs : List UInt8) (most : Int) : runR rs most = if (numR rs most 14).2.2 = 0 then
    if ((rs.length - (numR rs most 14).2.1 : Nat) : Int) < (numR rs most 14).1 then (([] : List UInt8), (numR rs most 14).2.1, (10 : Int))
    else ((rs.drop (numR rs most 14).2.1).take (numR rs most 14).1.toNat, (numR rs most 14).2.1 + (numR rs most 14).1.toNat, (0 : Int))
  else (([] : List UInt8), (numR rs most 14).2.1, (numR rs most 14).2.2) := rfl

theorem runR_size (rs : List UInt8) (most : Int) : ((runR rs most).2.2 = 0 → (runR rs most).2.1 ≤ rs.length) ∧ (runR rs most).1.length ≤ rs.length := by
  have h := numR_size rs most 14
  unfold runR
  split
  · split
    · simp
    · simp; omega
  · simp only [List.length_nil]; omega

theorem truthR_size (rs : List UInt8) : (truthR rs).2.2 = 0 → (truthR rs).2.1 ≤ rs.length := by
  cases rs with
  | nil => simp [truthR]
  | cons c r =>
    show ((if 1 < c.toNat then (false, 0, 12) else (c.toNat == 1, 1, 0) : Bool × Nat × Int).2.2 = 0 → (if 1 < c.toNat then (false, 0, 12) else (c.toNat == 1, 1, 0) : Bool × Nat × Int).2.1 ≤ (c :: r).length)
    split <;> simp

set_option maxRecDepth 100000 in
theorem and1 (x : Nat) : x &&& 1 = x % 2 := Nat.and_one_is_mod x

end Go.Proofs.YtafickhhdemjnaaGreatDoor

namespace Go.Proofs.YtafickhhdemjnaaGreatDoor
open Go.RowKit
set_option linter.unusedVariables false

theorem or_cell (m : Nat) : bits BinOp.or IntKind.u8 ((m : Int) % 256) 128 = ((UInt8.ofNat (m % 128 + 128)).toNat : Int) := by
  rw [u8_or _ _ (by omega) (by omega) (by omega) (by omega), toNat_of128, ← or128]
  congr 2

theorem low_cell (m : Nat) (h : m < 128) : ((m : Int) % 256) = ((UInt8.ofNat m).toNat : Int) := by
  rw [toNat_small m h]; omega

theorem rel_step {f m n : Nat} {pre : List UInt8} (hm : m < 128 ^ (f + 1)) (hlt : 128 ≤ m) (hpf : pre.length + f = 9) (he : pre ++ enc f m = enc 9 n) :
    ∃ f', f = f' + 1 ∧ m / 128 < 128 ^ (f' + 1) ∧ (pre ++ [UInt8.ofNat (m % 128 + 128)]).length + f' = 9 ∧ (pre ++ [UInt8.ofNat (m % 128 + 128)]) ++ enc f' (m / 128) = enc 9 n := by
  cases f with
  | zero => simp at hm; omega
  | succ f =>
    refine ⟨f, rfl, ?_, ?_, ?_⟩
    · rw [Nat.div_lt_iff_lt_mul (by omega)]; rw [Nat.pow_succ] at hm; exact hm
    · simp; omega
    · rw [← he, enc_step f m (by omega)]; simp

set_option maxHeartbeats 1600000 in
set_option maxRecDepth 1000000 in
theorem groups_any {w : World} {b : Nat} {v : Value} {st : Option (List UInt8)} (h : Wst w b v st) (n : Nat) (hn : n < 18446744073709551616) (hlen : lenS st + 10 ≤ 140737488355328) :
    Calls Tryz.prog 194 #[.pointer (some ⟨b, 0, none⟩), .int .u64 (n : Int)] w fun e w' => e = .returned (.tuple #[]) ∧ ∃ v', Wst w' b v' (addS st (enc 9 n)) ∧ WStep b w v w' v' := by
  have HH : Hid (Wst w b v st) := h; clear h
  go_enter Tryz.func194, Tryz.ntmps194
  go_wp2
  go_loopw [1] (fun nv wr => ∃ (f m : Nat) (pre : List UInt8) (v' : Value), nv = .int .u64 (m : Int) ∧ m < 128 ^ (f + 1) ∧ m < 18446744073709551616 ∧ pre.length + f = 9 ∧ Hid (pre ++ enc f m = enc 9 n) ∧ Hid (Wst wr b v' (addS st pre)) ∧ WStep b w v wr v') (fun nv _ => (intOf nv).toNat)
  case atStart => exact ⟨9, n, [], v, rfl, by omega, hn, rfl, by simp [Hid], by simpa [addS_nil] using HH, WStep.refl _ _ _⟩
  case round =>
    obtain ⟨f, m, pre, v', rfl, hm, hm64, hpf, he, hst, hstep⟩ := hrel
    have hl := lenS_addS st pre
    by_cases hlt : 128 ≤ m
    · obtain ⟨f', hf, hm', hpf', he'⟩ := rel_step hm hlt hpf he.out
      have He' : Hid _ := he'
      have Hm' : Hid _ := hm'
      have Hp' : Hid _ := hpf'
      clear he' hm' hf hpf' he hm
      go_wp2_with fail
      refine (put_any (hst.out.alloc _) (Reads.one wr (UInt8.ofNat (m % 128 + 128)) _ (or_cell m)) (by simp; omega)).mono ?_
      rintro e w1 ⟨rfl, v1, h1, h2⟩
      have H1 : Hid _ := h1
      have H2 : Hid _ := h2
      clear h1 h2
      go_wp2
      go_roundw
      case rel => exact ⟨f', m / 128, _, v1, by go_num, Hm'.out, by omega, Hp'.out, He'.out, by rw [← addS_addS]; exact H1.out, hstep.trans ((WStep.alloc _).trans H2.out)⟩
      case measure => simp [intOf]; omega
    · go_wp2_with fail
      have h128 : m < 128 := by omega
      refine (put_any (hst.out.alloc _) (Reads.one wr (UInt8.ofNat m) _ (by rw [toNat_small m h128])) (by simp; omega)).mono ?_
      rintro e w1 ⟨rfl, v1, h1, h2⟩
      have H1 : Hid _ := h1
      have H2 : Hid _ := h2
      clear h1 h2
      go_wp2
      go_end0
      refine ⟨rfl, v1, ?_, hstep.trans ((WStep.alloc _).trans H2.out)⟩
      rw [← he.out, enc_small f m h128, ← addS_addS]
      exact H1.out

set_option maxHeartbeats 800000 in
set_option maxRecDepth 1000000 in
theorem fail_any {w : World} {b : Nat} {v : Value} {st : Option (List UInt8)} (h : Wst w b v st) :
    Calls Tryz.prog 193 #[.pointer (some ⟨b, 0, none⟩)] w fun e w' => e = .returned (.tuple #[]) ∧ ∃ v', Wst w' b v' none ∧ WStep b w v w' v' := by
  obtain ⟨t, hbox⟩ : ∃ t, w.heap[b]? = some (.cells #[v, t] 249 (0, 0)) := by
    cases st with
    | none => exact ⟨_, h.2⟩
    | some bs => exact ⟨_, h.box⟩
  have c0 : w.cell? ⟨b, 0, none⟩ = some v := by rw [cell_at hbox]; rfl
  have c1 : w.cell? ⟨b, 1, none⟩ = some t := by rw [cell_at hbox]; rfl
  have f0 := free_at hbox 0
  have f1 := free_at hbox 1
  have R : Hid (Wst ((w.setCell ⟨b, 0, none⟩ (.slice none 0 0)).setCell ⟨b, 1, none⟩ (.bool true)) b (.slice none 0 0) none ∧ WStep b w v ((w.setCell ⟨b, 0, none⟩ (.slice none 0 0)).setCell ⟨b, 1, none⟩ (.bool true)) (.slice none 0 0)) := by
    refine ⟨⟨rfl, ?_⟩, ⟨rfl, rfl, rfl, by simp [World.setCell], ?_, fun k hk => by simp [Value.ownBlock] at hk⟩⟩
    · rw [heap_setCell_same (heap_setCell_same hbox _)]; rfl
    · intro k hk hkb hkv
      rw [Below.heap_setCell _ _ _ _ (by simpa using hkb), Below.heap_setCell _ _ _ _ (by simpa using hkb)]
  clear h hbox
  go_enter Tryz.func193, Tryz.ntmps193
  go_wp2
  go_end0
  exact ⟨rfl, _, R.out⟩

/-- What Num writes. -/
def numS (st : Option (List UInt8)) (n : Int) : Option (List UInt8) := if n < 0 then none else addS st (enc 9 n.toNat)

set_option maxHeartbeats 800000 in
set_option maxRecDepth 1000000 in
theorem num_any {w : World} {b : Nat} {v : Value} {st : Option (List UInt8)} (h : Wst w b v st) (n : Int) (hn : n < 9223372036854775808) (hlen : lenS st + 10 ≤ 140737488355328) :
    Calls Tryz.prog 167 #[.pointer (some ⟨b, 0, none⟩), .int .i64 n] w fun e w' => e = .returned (.tuple #[]) ∧ ∃ v', Wst w' b v' (numS st n) ∧ WStep b w v w' v' := by
  have HH : Hid (Wst w b v st) := h; clear h
  by_cases h0 : n < 0
  · go_enter Tryz.func167, Tryz.ntmps167
    go_wp2_with fail
    refine (fail_any HH.out).mono ?_
    rintro e w1 ⟨rfl, v1, h1, h2⟩
    have H1 : Hid _ := h1
    have H2 : Hid _ := h2
    clear h1 h2
    go_wp2
    refine bodyPost_ret (results_none rfl _ _ _) rfl ?_
    refine ⟨rfl, v1, ?_, H2.out⟩
    unfold numS
    rw [if_pos h0]
    exact H1.out
  · obtain ⟨m, rfl⟩ := Int.eq_ofNat_of_zero_le (Int.not_lt.1 h0)
    go_enter Tryz.func167, Tryz.ntmps167
    go_wp2_with fail
    refine (groups_any HH.out m (by omega) hlen).mono ?_
    rintro e w1 ⟨rfl, v1, h1, h2⟩
    have H1 : Hid _ := h1
    have H2 : Hid _ := h2
    clear h1 h2
    go_wp2
    go_end0
    refine ⟨rfl, v1, ?_, H2.out⟩
    unfold numS
    rw [if_neg (by omega)]
    exact H1.out

theorem fold_neg (n : Int) (h0 : n < 0) (h1 : -9223372036854775808 ≤ n) : bits BinOp.xor IntKind.u64 IntKind.u64.max (IntKind.u64.wrap (IntKind.u64.wrap n * 2)) = (foldN n : Int) := by
  have e0 : IntKind.u64.max = 18446744073709551615 := by decide
  rw [e0, IntKind.wrap_u64, IntKind.wrap_u64, u64_xor _ _ (by omega) (by omega) (by omega) (by omega)]
  have e1 : (18446744073709551615 : Int).toNat = 2 ^ 64 - 1 := by decide
  have e2 : (n % 18446744073709551616 * 2 % 18446744073709551616).toNat < 2 ^ 64 := by omega
  rw [e1, xor_ones _ e2]
  unfold foldN
  rw [if_pos h0]
  omega

theorem foldN_pos (n : Int) (h0 : 0 ≤ n) : n * 2 = (foldN n : Int) := by
  unfold foldN; rw [if_neg (by omega)]; omega

theorem foldN_lt (n : Int) (h1 : -9223372036854775808 ≤ n) (h2 : n < 9223372036854775808) : foldN n < 18446744073709551616 := by
  unfold foldN; split <;> omega

theorem ret_int {k : IntKind} {a b : Int} (h : a = b) : Ending.returned (.int k a) = .returned (.int k b) := by rw [h]

theorem WStep.apart {b : Nat} {w w' : World} {v v' s : Value} {l : List UInt8} (h : WStep b w v w' v') (hr : Reads w s l) (hs : ∀ k, s.ownBlock = some k → k ≠ b ∧ v.ownBlock ≠ some k) : ∀ k, s.ownBlock = some k → k ≠ b ∧ v'.ownBlock ≠ some k := by
  intro k hk
  refine ⟨(hs k hk).1, fun e => ?_⟩
  rcases h.own k e with e | e
  · exact (hs k hk).2 e
  · have := hr.block k hk; omega

set_option maxHeartbeats 800000 in
set_option maxRecDepth 1000000 in
theorem bytes_any {w : World} {b : Nat} {v : Value} {st : Option (List UInt8)} (h : Wst w b v st) {s : Value} {l : List UInt8} (hr : Reads w s l) (hs : ∀ k, s.ownBlock = some k → k ≠ b ∧ v.ownBlock ≠ some k) (hlen : lenS st + l.length + 10 ≤ 140737488355328) :
    Calls Tryz.prog 210 #[.pointer (some ⟨b, 0, none⟩), s] w fun e w' => e = .returned (.tuple #[]) ∧ ∃ v', Wst w' b v' (addS st (enc 9 l.length ++ l)) ∧ WStep b w v w' v' := by
  have HH : Hid (Wst w b v st) := h; clear h
  have HR : Hid (Reads w s l) := hr
  have HS : Hid (∀ k, s.ownBlock = some k → k ≠ b ∧ v.ownBlock ≠ some k) := hs
  obtain ⟨ao, c, rfl, _, _⟩ := hr
  clear hs
  go_enter Tryz.func210, Tryz.ntmps210
  go_wp2_with fail
  refine (num_any HH.out (l.length : Int) (by omega) (by omega)).mono ?_
  rintro e w1 ⟨rfl, v1, h3, h4⟩
  have HR1 : Hid _ := HR.out.step h4 HS.out
  have e1 : numS st (l.length : Int) = addS st (enc 9 l.length) := by unfold numS; rw [if_neg (by omega)]; simp
  rw [e1] at h3
  have H1 : Hid _ := h3
  have H2 : Hid _ := h4
  clear h3 h4 e1
  go_wp2_with fail
  refine (put_any H1.out HR1.out (by have := lenS_addS st (enc 9 l.length); have := enc_len 9 l.length; omega)).mono ?_
  rintro e w2 ⟨rfl, v2, h3, h4⟩
  rw [addS_addS] at h3
  have H3 : Hid _ := h3
  have H4 : Hid _ := h4
  clear h3 h4
  go_wp2
  go_end0
  exact ⟨rfl, v2, H3.out, H2.out.trans H4.out⟩

end Go.Proofs.YtafickhhdemjnaaGreatDoor

namespace Go.Proofs.YtafickhhdemjnaaGreatDoor
open Go.RowKit
set_option linter.unusedVariables false

theorem Reads.ofString (w : World) (s : ByteArray) (cap : Nat) (fr : Nat × Nat) (hc : s.size ≤ cap) : Reads (w.alloc (.cells (bytesRow s cap) 5 fr)).drew (.slice (some ⟨w.heap.size, 0, none⟩) s.size cap) s.data.toList := by
  refine ⟨_, _, rfl, hc, Or.inr ⟨_, _, rfl, by show w.heap.size < (w.alloc _).heap.size; simp, ?_⟩⟩
  intro j u hu
  have hj : j < s.data.size := by
    have := (List.getElem?_eq_some_iff.1 hu).1
    simpa [cellsB] using this
  show (w.alloc _).cell? _ = _
  rw [cell_at (heap_alloc_new w _), Nat.zero_add, bytesRow_at s cap j hj]
  rw [← hu]
  simp only [cellsB, List.getElem?_map, Array.getElem?_toList, Array.getElem?_eq_getElem hj]
  rfl

set_option maxHeartbeats 800000 in
set_option maxRecDepth 1000000 in
theorem text_any {w : World} {b : Nat} {v : Value} {st : Option (List UInt8)} (h : Wst w b v st) (s : ByteArray) (hlen : lenS st + s.size + 10 ≤ 140737488355328) :
    Calls Tryz.prog 189 #[.pointer (some ⟨b, 0, none⟩), .string s] w fun e w' => e = .returned (.tuple #[]) ∧ ∃ v', Wst w' b v' (addS st (enc 9 s.size ++ s.data.toList)) ∧ WStep b w v w' v' := by
  have HH : Hid (Wst w b v st) := h; clear h
  have hcv := fun w s => run_bytes_of_string (P := Tryz.prog) w 9 76 5 s Tryz.underlying9 Tryz.underlying76 Tryz.underlying5
  go_enter Tryz.func189, Tryz.ntmps189
  go_wp2_with fail
  have hb : Below w.heap.size w (w.alloc (.cells (bytesRow s (grownCap w s.size 0 5)) 5 ((bytesRow s (grownCap w s.size 0 5)).size, (bytesRow s (grownCap w s.size 0 5)).size + 1))).drew := ((Below.refl _ _).alloc (Nat.le_refl _) _).drew
  have hlt := HH.out.lt
  have hown := HH.out.own_lt
  refine (bytes_any (HH.out.below hb) (Reads.ofString w s _ _ (grownCap_ge w s.size 0 5)) ?_ ?_).mono ?_
  · intro k hk
    simp [Value.ownBlock] at hk
    subst hk
    refine ⟨by omega, fun e => ?_⟩
    have := (hown _ e).2
    omega
  · have : s.data.toList.length = s.size := rfl
    omega
  rintro e w1 ⟨rfl, v1, h3, h4⟩
  have H1 : Hid _ := h3
  have H2 : Hid _ := (WStep.of_below hb).trans h4
  clear h3 h4 hb hown hlt
  go_wp2
  go_end0
  exact ⟨rfl, v1, H1.out, H2.out⟩

set_option maxHeartbeats 800000 in
set_option maxRecDepth 1000000 in
theorem clone_some {w : World} (g o c : Nat) (l : List UInt8) (hc : ∀ j u, (cellsB l)[j]? = some u → w.cell? ⟨g, o + j, none⟩ = some u) (hg : g < w.heap.size) (hlen : l.length ≤ 140737488355328) :
    Calls Tryz.prog 115 #[.slice (some ⟨g, o, none⟩) l.length c] w fun e w' => ∃ s', e = .returned s' ∧ w'.ownsRow w.heap.size 5 1 s' l.length (cellsB l) ∧ Below w.heap.size w w' := by
  obtain ⟨i0, hi, hz0, hz1, hz2⟩ := info_parts Tryz.info5
  have he := fun w => Lib.run_eql_slice_nil (P := Tryz.prog) w 76 5 (some ⟨g, o, none⟩) l.length c 0 0 Tryz.underlying76
  have hnews : ∀ j u, (cellsB l)[j]? = some u → (w.alloc (.cells #[] 5)).cell? ((⟨g, o, none⟩ : Addr).add j) = some u := by
    intro j u hu
    rw [Addr.add_lit, World.cell?_alloc_past _ _ _ hg]
    exact hc j u hu
  clear hc
  have h0 : (w.alloc (.cells #[] 5)).ownsRow w.heap.size 5 1 (.slice (some ⟨w.heap.size, 0, none⟩) 0 0) 0 [] := World.ownsRow_made w #[] 0 (Nat.le_refl _) (by unfold maxLen; omega) rfl
  go_enter Tryz.func115, Tryz.ntmps115
  go_wp2_with (at_builtin; refine wpList_append_own_at _ rfl (.tmp 5) (.tmp 6) 76 rfl w.heap.size 5 i0 (.int .u8 0) 1 1 Tryz.underlying76 hi hz0 hz1 hz2 rfl (by decide) _ _ _ rfl h0 ⟨g, o, none⟩ l.length c (cellsB l) rfl (by rw [cellsB_length]; omega) hnews (cellsB_one _) (by unfold maxLen; omega) (by omega) (by simp) ?_)
  intro v' w1 hown hgr hnil hat
  have R : Hid (w1.ownsRow w.heap.size 5 1 v' l.length (cellsB l) ∧ Below w.heap.size w w1) := by
    refine ⟨by simpa using hown, ((Below.refl _ _).alloc (Nat.le_refl _) _).grown hgr (by simp) (fun k hk => ?_)⟩
    simp [Value.ownBlock] at hk
    omega
  clear hown hgr hnil hat h0
  go_wp2
  go_ret
  exact ⟨v', rfl, R.out.1, R.out.2⟩

set_option maxHeartbeats 800000 in
set_option maxRecDepth 1000000 in
theorem clone_none {w : World} :
    Calls Tryz.prog 115 #[.slice none 0 0] w fun e w' => e = .returned (.slice none 0 0) ∧ w' = w := by
  have he := fun w => Lib.run_eql_slice_nil (P := Tryz.prog) w 76 5 none 0 0 0 0 Tryz.underlying76
  go_enter Tryz.func115, Tryz.ntmps115
  go_wp2
  go_ret
  exact ⟨rfl, rfl⟩

theorem clone_any {w : World} {s : Value} {l : List UInt8} (h : Reads w s l) (hlen : l.length ≤ 140737488355328) :
    Calls Tryz.prog 115 #[s] w fun e w' => ∃ s', e = .returned s' ∧ w'.ownsRow w.heap.size 5 1 s' l.length (cellsB l) ∧ Below w.heap.size w w' := by
  obtain ⟨ao, c, rfl, hc, ⟨rfl, rfl, rfl⟩ | ⟨g, o, rfl, hg, hcell⟩⟩ := h
  · refine clone_none.mono ?_
    rintro e w' ⟨rfl, rfl⟩
    exact ⟨_, rfl, World.ownsRow_nil _ _ _ _, Below.refl _ _⟩
  · exact clone_some g o c l hcell hg hlen

/-- A slice that is owned: its shape. -/
theorem owns_form {w : World} {base : Nat} {e : TypeId} {size : Nat} {v : Value} {n : Nat} {xs : List Value} (h : w.ownsRow base e size v n xs) : ∃ ao cap, v = .slice ao n cap := by
  rcases h.2 with ⟨rfl, e⟩ | ⟨g, cap, _, rfl, _⟩
  · exact ⟨none, 0, by rw [e]⟩
  · exact ⟨_, cap, rfl⟩

set_option maxHeartbeats 800000 in
set_option maxRecDepth 1000000 in
theorem done_whole {w : World} {b : Nat} {v : Value} {bs : List UInt8} (h : Wst w b v (some bs)) (hlen : bs.length ≤ 140737488355328) :
    Calls Tryz.prog 169 #[.pointer (some ⟨b, 0, none⟩)] w fun e w' => ∃ s', e = .returned (.tuple #[s', .int .i64 0]) ∧ w'.ownsRow w.heap.size 5 1 s' bs.length (cellsB bs) ∧ Below w.heap.size w w' := by
  have HR : Hid (Reads w v bs) := Reads.of_owns h.row
  obtain ⟨ao, cap, rfl⟩ := Wr.form h
  have c0 : w.cell? ⟨b, 0, none⟩ = some (.slice ao bs.length cap) := by rw [cell_at h.box]; rfl
  have c1 : w.cell? ⟨b, 1, none⟩ = some (.bool false) := by rw [cell_at h.box]; rfl
  clear h
  go_enter Tryz.func169, Tryz.ntmps169
  go_wp2_with fail
  refine (clone_any HR.out hlen).mono ?_
  rintro e w1 ⟨s', rfl, h1, h2⟩
  have R : Hid _ := And.intro h1 h2
  obtain ⟨ao', cap', rfl⟩ := owns_form h1
  clear h1 h2
  go_wp2
  go_ret2
  exact ⟨_, rfl, R.out.1, R.out.2⟩

set_option maxHeartbeats 800000 in
set_option maxRecDepth 1000000 in
theorem done_broken {w : World} {b : Nat} {v : Value} (h : Wst w b v none) :
    Calls Tryz.prog 169 #[.pointer (some ⟨b, 0, none⟩)] w fun e w' => e = .returned (.tuple #[.slice none 0 0, .int .i64 1]) ∧ w' = w := by
  have c1 : w.cell? ⟨b, 1, none⟩ = some (.bool true) := by rw [cell_at h.2]; rfl
  clear h
  go_enter Tryz.func169, Tryz.ntmps169
  go_wp2
  go_ret2
  exact ⟨rfl, rfl⟩
end Go.Proofs.YtafickhhdemjnaaGreatDoor

namespace Go.Proofs.YtafickhhdemjnaaGreatDoor
open Go.RowKit
set_option linter.unusedVariables false

/-- Nothing old has turned but one block. -/
structure Only (b : Nat) (w w' : World) : Prop where
  os : w'.os = w.os
  tape : w'.tape = w.tape
  output : w'.output = w.output
  size : w.heap.size ≤ w'.heap.size
  block : ∀ k, k < w.heap.size → k ≠ b → w'.heap[k]? = w.heap[k]?

theorem Only.refl (b : Nat) (w : World) : Only b w w := ⟨rfl, rfl, rfl, Nat.le_refl _, fun _ _ _ => rfl⟩
theorem Only.trans {b : Nat} {w w' w'' : World} (h : Only b w w') (k : Only b w' w'') : Only b w w'' :=
  ⟨k.os.trans h.os, k.tape.trans h.tape, k.output.trans h.output, Nat.le_trans h.size k.size, fun i hi hb => (k.block i (Nat.lt_of_lt_of_le hi h.size) hb).trans (h.block i hi hb)⟩
/-- One that turned a block that was not there has turned none. -/
theorem Only.new {b c : Nat} {w w' : World} (h : Only c w w') (hc : w.heap.size ≤ c) : Only b w w' := ⟨h.os, h.tape, h.output, h.size, fun k hk _ => h.block k hk (by omega)⟩
theorem Only.below {b : Nat} {w w' : World} (h : Below w.heap.size w w') : Only b w w' := ⟨h.os, h.tape, h.output, h.size, fun k hk _ => h.block k hk⟩
theorem Only.after {t : Nat} {w w1 w2 : World} (h1 : Below w.heap.size w w1) (h2 : Only t w1 w2) (ht : w.heap.size ≤ t) : Below w.heap.size w w2 :=
  ⟨h2.os.trans h1.os, h2.tape.trans h1.tape, h2.output.trans h1.output, Nat.le_trans h1.size h2.size, fun k hk => (h2.block k (Nat.lt_of_lt_of_le hk h1.size) (by omega)).trans (h1.block k hk)⟩
theorem Only.alloc (b : Nat) (w : World) (o : Obj) : Only b w (w.alloc o) := Only.below ((Below.refl _ _).alloc (Nat.le_refl _) _)
theorem Only.setCell {b : Nat} (w : World) (j : Nat) (u : Value) : Only b w (w.setCell ⟨b, j, none⟩ u) :=
  ⟨rfl, rfl, rfl, by simp [World.setCell], fun k _ hb => Below.heap_setCell _ _ _ _ (by simpa using hb)⟩
theorem Only.drew (b : Nat) (w : World) : Only b w w.drew := ⟨rfl, rfl, rfl, Nat.le_refl _, fun _ _ _ => rfl⟩
theorem Only.drewN (b : Nat) (w : World) (n : Nat) : Only b w (w.drewN n) := ⟨rfl, rfl, rfl, Nat.le_refl _, fun _ _ _ => rfl⟩
theorem Reads.only {w w' : World} {s : Value} {l : List UInt8} {b : Nat} (h : Reads w s l) (hw : Only b w w') (hb : s.ownBlock ≠ some b) : Reads w' s l :=
  h.kept hw.size fun k hk => hw.block k (h.block k hk) (fun e => hb (by rw [hk, e]))

theorem Reads.form {w : World} {s : Value} {l : List UInt8} (h : Reads w s l) : ∃ ao c, s = .slice ao l.length c := by
  obtain ⟨ao, c, e, _⟩ := h; exact ⟨ao, c, e⟩

theorem alloc_new_at (w : World) (o : Obj) : (w.alloc o).heap[w.heap.size]? = some o := heap_alloc_new w o

theorem Reads.at {w : World} {ao : Option Addr} {n c : Nat} {l : List UInt8} (h : Reads w (.slice ao n c) l) (k : Nat) (hk : k < l.length) : ∃ g o, ao = some ⟨g, o, none⟩ ∧ w.cell? ⟨g, o + k, none⟩ = some (.int .u8 ((l.getD k 0).toNat : Int)) := by
  obtain ⟨ao', c', e, hc, hcase⟩ := h
  simp only [Value.slice.injEq] at e
  obtain ⟨rfl, rfl, rfl⟩ := e
  rcases hcase with ⟨_, rfl, _⟩ | ⟨g, o, rfl, hg, hcell⟩
  · simp at hk
  · exact ⟨g, o, rfl, hcell k _ (by simp [cellsB, hk, List.getD])⟩

theorem or_form (acc x k most top : Nat) (hx : x < 256) (h : acc < 128 ^ k) (hk : k < most) (hm : most ≤ 10) (ht2 : most = 10 → top ≤ 1) (hw : ¬ (k + 1 = most ∧ top < x)) :
    bits BinOp.or IntKind.u64 (acc : Int) (IntKind.u64.wrap (IntKind.u64.wrap (bits BinOp.andNot IntKind.u8 (x : Int) 128) * 2 ^ (k * 7))) = ((acc + x % 128 * 128 ^ k : Nat) : Int) := by
  have ha := acc_lt acc x k most top h hk hm ht2 hw
  have e1 : bits BinOp.andNot IntKind.u8 (x : Int) 128 = ((x % 128 : Nat) : Int) := by
    have := u8_andNot_nat x 128 hx (by omega)
    rw [and127 x hx] at this
    exact this
  have e2 : IntKind.u64.wrap ((x % 128 : Nat) : Int) = ((x % 128 : Nat) : Int) := by rw [IntKind.wrap_u64]; omega
  have e3 : ((x % 128 : Nat) : Int) * 2 ^ (k * 7) = ((x % 128 * 128 ^ k : Nat) : Int) := by
    have : (2 : Nat) ^ (k * 7) = 128 ^ k := by rw [Nat.mul_comm, Nat.pow_mul]
    rw [← this]
    push_cast
    rfl
  have e4 : IntKind.u64.wrap ((x % 128 * 128 ^ k : Nat) : Int) = ((x % 128 * 128 ^ k : Nat) : Int) := by rw [IntKind.wrap_u64]; omega
  rw [e1, e2, e3, e4, u64_or_nat _ _ (by omega) ha.2.2, or_add _ _ _ h]

theorem and_yes (x : Nat) (hx : x < 256) (h : 128 ≤ x) : (bits BinOp.and IntKind.u8 (x : Int) 128 != 0) = true := by
  have := u8_and_nat x 128 hx (by omega)
  rw [and128 x hx, if_pos h] at this
  have e : bits BinOp.and IntKind.u8 (x : Int) 128 = 128 := this
  rw [e]; rfl

theorem and_no (x : Nat) (hx : x < 256) (h : x < 128) : (bits BinOp.and IntKind.u8 (x : Int) 128 != 0) = false := by
  have := u8_and_nat x 128 hx (by omega)
  rw [and128 x hx, if_neg (by omega)] at this
  have e : bits BinOp.and IntKind.u8 (x : Int) 128 = 0 := this
  rw [e]; rfl

end Go.Proofs.YtafickhhdemjnaaGreatDoor

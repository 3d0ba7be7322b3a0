import Derived.Test.YtdhkdniddjnigaaGreatDoorJ6
import Derived.Lib.OthersKept
import Derived.WalkSmall
import Derived.Test.YtdhkdniddjnigaaGreatDoorJ2
import Derived.Deep.QuietTactic
import Derived.BigQuiet
namespace Go.Proofs.YtdhkdniddjnigaaGreatDoor
open Go.RowKit
set_option linter.unusedVariables false

theorem All.del {c d : Comp} {cs : List Comp} {w : World} (h : All (c :: d :: cs) w) : All (c :: cs) w := h.swap.tail
def WRPost (ws : Ws) (x : Int) (cs : List Comp) (en : Ending) (w' : World) : Prop :=
  ∃ v, en = .returned (.tuple #[v, .int .i64 x]) ∧ All (ownC 9 v (txW ws) :: cs) w'
theorem rt_nil (w : World) : Rt w (.slice none 0 0) [] := ⟨none, 0, rfl, Nat.le_refl _, Or.inl rfl⟩
theorem row2 {x : List UInt8} {v : Value} {l : Ws} {cs : List Comp} {w : World} (A : All cs w) (h : Rt w v l) (hl : l.length ≤ 1000) :
    Calls Tryz.prog 99 #[.string ⟨x.toArray⟩, v] w fun e w' => ∃ v', e = .returned v' ∧ All (ownC 9 v' (txW (x :: l)) :: cs) w' :=
  Calls.mono (row_any A h (by omega)) fun e w' ⟨ao, c, he, hA⟩ => ⟨_, he, hA⟩
theorem itoa_nat (n : Nat) : Lib.itoa (n : Int) = Lib.decDigits n := by
  unfold Lib.itoa
  rw [if_neg (by omega)]
  congr 1

end Go.Proofs.YtdhkdniddjnigaaGreatDoor

namespace Go.Proofs.YtdhkdniddjnigaaGreatDoor
open Go.RowKit Go.Lib
set_option linter.unusedVariables false

/-- A kind's word and its letters. -/
def nmN (k : Nat) : List UInt8 := (wfN.getD k ([], [])).1
def ltN (k : Nat) : List UInt8 := (wfN.getD k ([], [])).2
/-- The table of the kinds' forms. -/
def Wf (w : World) : Prop := 5 < w.heap.size ∧ ∀ k, k < 9 → w.cell? ⟨5, k * 2, none⟩ = some (.string ⟨(nmN k).toArray⟩) ∧ w.cell? ⟨5, k * 2 + 1, none⟩ = some (.string ⟨(ltN k).toArray⟩)
theorem Wf.later {w w' : World} (h : Wf w) (hb : Below w.heap.size w w') : Wf w' := ⟨Nat.lt_of_lt_of_le h.1 hb.size, fun k hk => ⟨cell_under hb h.1 (h.2 k hk).1, cell_under hb h.1 (h.2 k hk).2⟩⟩
theorem ltN_in {k : Nat} {x : UInt8} (h : x ∈ ltN k) : x.toNat = 78 ∨ x.toNat = 84 ∨ x.toNat = 75 ∨ x.toNat = 77 := by
  have key : ∀ p ∈ wfN, ∀ x ∈ p.2, x.toNat = 78 ∨ x.toNat = 84 ∨ x.toNat = 75 ∨ x.toNat = 77 := by decide
  unfold ltN at h
  by_cases hk : k < wfN.length
  · rw [List.getD, List.getElem?_eq_getElem hk] at h
    exact key _ (List.getElem_mem hk) x h
  · rw [List.getD, List.getElem?_eq_none (by omega)] at h
    cases h
theorem ltN_len (k : Nat) : (ltN k).length ≤ 3 := by
  have key : ∀ p ∈ wfN, p.2.length ≤ 3 := by decide
  unfold ltN
  by_cases hk : k < wfN.length
  · rw [List.getD, List.getElem?_eq_getElem hk]
    exact key _ (List.getElem_mem hk)
  · rw [List.getD, List.getElem?_eq_none (by omega)]
    simp
/-- A field's word. -/
def fieldW (nm tx : List UInt8) (n m : Nat) (c : Nat) : List UInt8 := if c = 78 then nm else if c = 84 then tx else if c = 75 then Lib.decDigits n else Lib.decDigits m
def flds (nm tx : List UInt8) (n m : Nat) (lt : List UInt8) : Ws := lt.map fun c => fieldW nm tx n m c.toNat
theorem flds_snoc (nm tx : List UInt8) (n m : Nat) {lt : List UInt8} {p : Nat} (h : p < lt.length) : flds nm tx n m (lt.take (p + 1)) = flds nm tx n m (lt.take p) ++ [fieldW nm tx n m (lt.getD p 0).toNat] := by
  rw [take_snocB h]
  simp [flds]

/-- A string's reader on its way. -/
def itC (g : Nat) (s : ByteArray) (p : Nat) : Comp := ⟨fun w => w.heap[g]? = some (.stringIter s p), [g]⟩
theorem itC_good (g : Nat) (s : ByteArray) (p : Nat) : (itC g s p).Good := fun w w' h _ hb => (hb g (by simp [itC])).trans h
theorem iter_below (w : World) (s : ByteArray) : Below w.heap.size w (w.iter s 0) := ba w _
theorem All.addIt {cs : List Comp} {w : World} (h : All cs w) (s : ByteArray) : All (itC w.heap.size s 0 :: cs) (w.iter s 0) := by
  refine h.add (Fr.below (iter_below w s)) (itC_good _ _ _) (World.iter_heap w s 0) (fun k hk => ?_)
  have : k = w.heap.size := by simpa [itC] using hk
  subst this
  exact ⟨Nat.le_refl _, by simp [World.iter]⟩
theorem All.setIt {g : Nat} {s : ByteArray} {p : Nat} {cs : List Comp} {w : World} (h : All (itC g s p :: cs) w) (q : Nat) : All (itC g s q :: cs) (w.iterAt g s q) := by
  have hg : w.heap[g]? = some (.stringIter s p) := h.1.2.1
  refine h.turn ⟨rfl, rfl, rfl, by simp [World.iterAt], fun k hk hF => ?_⟩ (itC_good _ _ _) (iterAt_heap w g s p q hg) (fun k hk => Or.inl hk) (fun k hk => ?_)
  · have hne : g ≠ k := fun e => hF (by simp [itC, e])
    simp only [World.iterAt]
    rw [Array.getElem?_setIfInBounds_ne hne]
  · have : k = g := by simpa [itC] using hk
    subst this
    simpa [World.iterAt] using h.1.2.2 k (by simp [itC])
theorem next_at {w : World} {g : Nat} {lt : List UInt8} {p : Nat} {cs : List Comp} (h : All (itC g ⟨lt.toArray⟩ p :: cs) w) (hp : p < lt.length) (ha : (lt.getD p 0).toNat < 128) :
    (Instr.next (.pointer (some ⟨g, 0, none⟩)) true 0).run Tryz.prog w = .ok (.tuple #[.bool true, .int .i64 (p : Int), .int .i32 ((lt.getD p 0).toNat : Int)]) (w.iterAt g ⟨lt.toArray⟩ (p + 1)) := by
  have hs : (⟨lt.toArray⟩ : ByteArray).size = lt.length := by simp [ByteArray.size]
  have e : (⟨lt.toArray⟩ : ByteArray)[p]'(by rw [hs]; exact hp) = lt.getD p 0 := by
    show ByteArray.get _ _ _ = _
    simp [ByteArray.get, List.getD, hp]
  have := run_next_ascii_at (P := Tryz.prog) w g ⟨lt.toArray⟩ p 0 h.1.2.1 (by rw [hs]; exact hp) (by rw [e]; exact ha)
  rw [e] at this
  exact this
theorem next_end {w : World} {g : Nat} {lt : List UInt8} {p : Nat} {cs : List Comp} (h : All (itC g ⟨lt.toArray⟩ p :: cs) w) (hp : ¬ p < lt.length) :
    (Instr.next (.pointer (some ⟨g, 0, none⟩)) true 0).run Tryz.prog w = .ok (.tuple #[.bool false]) w :=
  run_next_end_at (P := Tryz.prog) w g ⟨lt.toArray⟩ p 0 h.1.2.1 (by simpa [ByteArray.size] using hp)

end Go.Proofs.YtdhkdniddjnigaaGreatDoor

namespace Go.Proofs.YtdhkdniddjnigaaGreatDoor
open Go.RowKit Go.Lib
set_option linter.unusedVariables false

/-- An op's words. -/
def opW (k : Nat) (nm tx : List UInt8) (n m : Nat) : Ws := nmN k :: flds nm tx n m (ltN k)
/-- What the check tells. -/
def chkO (k : Int) (nm tx : List UInt8) (n m : Int) : Int := chkA k nm.length tx.length n m
def opA (k : Int) (nm tx : List UInt8) (n m : Int) : Ws := if chkO k nm tx n m ≠ 0 then [] else opW k.toNat nm tx n.toNat m.toNat
theorem wr_ok {a b n : Int} (h : wr a b n = false) (hx : ex b n = false) (ha : 0 ≤ a) : 0 ≤ n ∧ (n ≤ b ∨ n = 0) ∧ (¬ 0 < b → n = 0) ∧ (0 < b → a ≤ n) := by
  by_cases hb : 0 < b
  · have h1 : a ≤ n ∧ n ≤ b := by simpa [wr, hs, hl, hb] using h
    refine ⟨by omega, Or.inl h1.2, fun h => absurd hb h, fun _ => h1.1⟩
  · have h1 : n = 0 := by simpa [ex, hs, hb] using hx
    exact ⟨by omega, Or.inr h1, fun _ => h1, fun h => absurd h hb⟩
theorem chkR_zero {a0 a1 a2 a3 a4 a5 a6 a7 s t n m : Int} (h : chkR a0 a1 a2 a3 a4 a5 a6 a7 s t n m = 0) : wr a0 a1 s = false ∧ wr a2 a3 t = false ∧ wr a4 a5 n = false ∧ wr a6 a7 m = false ∧ ex a1 s = false ∧ ex a3 t = false ∧ ex a5 n = false ∧ ex a7 m = false := by
  unfold chkR at h
  repeat' (split at h; · simp at h)
  simp_all
/-- What holds of an op that the check lets pass. -/
theorem chkO_zero {k : Int} {nm tx : List UInt8} {n m : Int} (h : chkO k nm tx n m = 0) : 1 ≤ k ∧ k ≤ 8 ∧ 0 ≤ n ∧ n ≤ 1099511627776 ∧ 0 ≤ m ∧ m ≤ 1099511627776 ∧ nm.length ≤ 64 ∧ tx.length ≤ 64
    ∧ (78 ∉ ltN k.toNat → nm = []) ∧ (84 ∉ ltN k.toNat → tx = []) ∧ (75 ∉ ltN k.toNat → n = 0) ∧ (77 ∉ ltN k.toNat → m = 0) := by
  unfold chkO chkA at h
  by_cases hk : k < 1 ∨ 8 < k
  · rw [if_pos hk] at h; simp at h
  rw [if_neg hk] at h
  unfold chkT at h
  obtain ⟨h1, h2, h3, h4, h5, h6, h7, h8⟩ := chkR_zero h
  clear h
  generalize hs1 : (nm.length : Int) = s1 at *
  generalize hs2 : (tx.length : Int) = s2 at *
  have hnm : ∀ {l : List UInt8}, (l.length : Int) = 0 → l = [] := fun {l} h => List.eq_nil_of_length_eq_zero (by omega)
  obtain rfl | rfl | rfl | rfl | rfl | rfl | rfl | rfl : k = 1 ∨ k = 2 ∨ k = 3 ∨ k = 4 ∨ k = 5 ∨ k = 6 ∨ k = 7 ∨ k = 8 := by omega
  all_goals
    have q1 := wr_ok h1 h5 (by decide)
    have q2 := wr_ok h2 h6 (by decide)
    have q3 := wr_ok h3 h7 (by decide)
    have q4 := wr_ok h4 h8 (by decide)
    clear h1 h2 h3 h4 h5 h6 h7 h8 hk
    simp [formN] at q1 q2 q3 q4
    refine ⟨by omega, by omega, by omega, by omega, by omega, by omega, by omega, by omega, fun hx => ?_, fun hx => ?_, fun hx => ?_, fun hx => ?_⟩
    all_goals first | omega | exact absurd (by decide) hx | (exact hnm (by omega))

theorem chkO_any {k : Int} {nm tx : List UInt8} {n m : Int} {w : World} (hT : Tab w) : Calls Tryz.prog 169 #[opV k ⟨nm.toArray⟩ ⟨tx.toArray⟩ n m] w fun e w' => e = .returned (.int .i64 (chkO k nm tx n m)) ∧ Below w.heap.size w w' := by
  have := check_any hT k ⟨nm.toArray⟩ ⟨tx.toArray⟩ n m
  have e1 : (⟨nm.toArray⟩ : ByteArray).size = nm.length := by simp [ByteArray.size]
  have e2 : (⟨tx.toArray⟩ : ByteArray).size = tx.length := by simp [ByteArray.size]
  rw [e1, e2] at this
  exact this

theorem blk5 {B : Nat} {a b c d e : Value} {t : TypeId} {cs : List Comp} {w : World} (h : All cs w) (hm : blkC B [a, b, c, d, e] t ∈ cs) : w.cell? ⟨B, 0, none⟩ = some a ∧ w.cell? ⟨B, 1, none⟩ = some b ∧ w.cell? ⟨B, 2, none⟩ = some c ∧ w.cell? ⟨B, 3, none⟩ = some d ∧ w.cell? ⟨B, 4, none⟩ = some e ∧ B < w.heap.size := by
  have hb := (h.mem hm).2.1
  exact ⟨by rw [cell_at hb]; rfl, by rw [cell_at hb]; rfl, by rw [cell_at hb]; rfl, by rw [cell_at hb]; rfl, by rw [cell_at hb]; rfl, (h.mem hm).2.2 B (by simp [blkC])⟩
theorem blk2 {B : Nat} {a b : Value} {t : TypeId} {cs : List Comp} {w : World} (h : All cs w) (hm : blkC B [a, b] t ∈ cs) : w.cell? ⟨B, 0, none⟩ = some a ∧ w.cell? ⟨B, 1, none⟩ = some b ∧ B < w.heap.size := by
  have hb := (h.mem hm).2.1
  exact ⟨by rw [cell_at hb]; rfl, by rw [cell_at hb]; rfl, (h.mem hm).2.2 B (by simp [blkC])⟩

end Go.Proofs.YtdhkdniddjnigaaGreatDoor

namespace Go.Proofs.YtdhkdniddjnigaaGreatDoor
open Go.RowKit
set_option linter.unusedVariables false

theorem hasName_any {w : World} (k : Int) : Calls Tryz.prog 151 #[.int .i64 k] w fun e w' => e = .returned (.bool (decide (1 ≤ k ∧ k ≤ 7))) ∧ w' = w := by
  by_cases h : 1 ≤ k
  · have e1 : decide (1 ≤ k) = true := by simpa using h
    have e : decide (1 ≤ k ∧ k ≤ 7) = decide (k ≤ 7) := by rw [Bool.eq_iff_iff]; simp; omega
    rw [e]; clear e
    go_enter Tryz.func151, Tryz.ntmps151
    go_wp2
    go_ret
    exact ⟨rfl, rfl⟩
  · have e1 : decide (1 ≤ k) = false := by simpa using h
    have e : decide (1 ≤ k ∧ k ≤ 7) = false := by simp; omega
    rw [e]; clear e
    go_enter Tryz.func151, Tryz.ntmps151
    go_wp2
    go_ret
    exact ⟨rfl, rfl⟩
theorem hasNum_any {w : World} (k : Int) : Calls Tryz.prog 154 #[.int .i64 k] w fun e w' => e = .returned (.bool (decide (k = 4 ∨ k = 6))) ∧ w' = w := by
  by_cases h : k = 4
  · subst h
    go_enter Tryz.func154, Tryz.ntmps154
    go_wp2
    go_ret
    exact ⟨by simp, rfl⟩
  · have e1 : (k == 4) = false := by simpa using h
    have e : decide (k = 4 ∨ k = 6) = (k == 6) := by rw [Bool.eq_iff_iff]; simp; omega
    rw [e]; clear e
    go_enter Tryz.func154, Tryz.ntmps154
    go_wp2
    go_ret
    exact ⟨rfl, rfl⟩
def tMost (k : Int) : Int := if k = 3 then 64 else if k = 5 then 16 else -1
def tLeast (k : Int) : Int := if k = 5 then 1 else 0
theorem textMost_any {w : World} (k : Int) : Calls Tryz.prog 152 #[.int .i64 k] w fun e w' => e = .returned (.int .i64 (tMost k)) ∧ w' = w := by
  by_cases h : k = 3
  · subst h
    go_enter Tryz.func152, Tryz.ntmps152
    go_wp2
    go_ret
    exact ⟨rfl, rfl⟩
  · have e1 : (k == 3) = false := by simpa using h
    by_cases h5 : k = 5
    · subst h5
      go_enter Tryz.func152, Tryz.ntmps152
      go_wp2
      go_ret
      exact ⟨rfl, rfl⟩
    · have e2 : (k == 5) = false := by simpa using h5
      rw [show tMost k = -1 by simp [tMost, h, h5]]
      clear h h5
      go_enter Tryz.func152, Tryz.ntmps152
      go_wp2
      go_ret
      exact ⟨rfl, rfl⟩
theorem textLeast_any {w : World} (k : Int) : Calls Tryz.prog 153 #[.int .i64 k] w fun e w' => e = .returned (.int .i64 (tLeast k)) ∧ w' = w := by
  by_cases h : k = 5
  · subst h
    go_enter Tryz.func153, Tryz.ntmps153
    go_wp2
    go_ret
    exact ⟨rfl, rfl⟩
  · have e1 : (k == 5) = false := by simpa using h
    rw [show tLeast k = 0 by simp [tLeast, h]]
    clear h
    go_enter Tryz.func153, Tryz.ntmps153
    go_wp2
    go_ret
    exact ⟨rfl, rfl⟩

theorem nonempty (v : ByteArray) (h : ¬ v.size = 0) : v.toList.isEmpty = false := by
  rw [ByteArray.toList_eq]
  obtain ⟨⟨l⟩⟩ := v
  cases l with
  | nil => exact absurd rfl h
  | cons a l => rfl
theorem isempty (v : ByteArray) (h : v.size = 0) : v.toList.isEmpty = true := by
  rw [ByteArray.toList_eq]
  obtain ⟨⟨l⟩⟩ := v
  cases l with
  | nil => rfl
  | cons a l => simp [ByteArray.size] at h

/-- The op lies in a block of its own. -/
abbrev opC (k : Int) (nm tx : ByteArray) (n m : Int) : Obj := .cells #[.int .i64 k, .string nm, .string tx, .int .i64 n, .int .i64 m] 42
structure Bx (w w1 : World) (k : Int) (nm tx : ByteArray) (n m : Int) : Prop where
  op : w1.heap[w.heap.size]? = some (opC k nm tx n m)
  below : Below w.heap.size w w1
theorem Bx.first (w : World) (k : Int) (nm tx : ByteArray) (n m : Int) : Bx w (w.alloc (opC k nm tx n m)) k nm tx n m := ⟨heap_alloc_new w _, ba w _⟩
theorem Bx.drewN {w w1 : World} {k : Int} {nm tx : ByteArray} {n m : Int} (h : Bx w w1 k nm tx n m) (q : Nat) : Bx w (w1.drewN q) k nm tx n m := ⟨h.op, ⟨h.below.os, h.below.tape, h.below.output, h.below.size, h.below.block⟩⟩
end Go.Proofs.YtdhkdniddjnigaaGreatDoor

namespace Go.Proofs.YtdhkdniddjnigaaGreatDoor
open Go.RowKit
set_option linter.unusedVariables false

set_option maxHeartbeats 3200000 in
set_option maxRecDepth 1000000 in
theorem rc1 {w : World} (nm tx : ByteArray) (n m : Int) : Calls Tryz.prog 114 #[opV 1 nm tx n m] w fun e w' => e = .returned (.int .i64 (chkR 1 16 0 0 0 0 0 0 nm.size tx.size n m)) ∧ Below w.heap.size w w' := by
  have N : ∀ W : World, Calls Tryz.prog 151 #[.int .i64 1] W fun e w' => e = .returned (.bool true) ∧ w' = W := fun W => hasName_any 1
  have L : ∀ W : World, Calls Tryz.prog 152 #[.int .i64 1] W fun e w' => e = .returned (.int .i64 (-1)) ∧ w' = W := fun W => textMost_any 1
  have S : ∀ W : World, Calls Tryz.prog 153 #[.int .i64 1] W fun e w' => e = .returned (.int .i64 0) ∧ w' = W := fun W => textLeast_any 1
  have M : ∀ W : World, Calls Tryz.prog 154 #[.int .i64 1] W fun e w' => e = .returned (.bool false) ∧ w' = W := fun W => hasNum_any 1
  have N := hid N
  have L := hid L
  have S := hid S
  have M := hid M
  go_enter Tryz.func114, Tryz.ntmps114
  go_wp2_with fail
  refine (N.out _).mono ?_
  rintro e w1 ⟨rfl, hw⟩
  have T := hid (Bx.first w 1 nm tx n m)
  have T : Hid (Bx w w1 1 nm tx n m) := hid (by rw [hw]; exact T.out)
  clear hw
  have o0 : w1.cell? ⟨w.heap.size, 0, none⟩ = some (.int .i64 1) := by rw [cell_at T.out.op]; rfl
  have o1 : w1.cell? ⟨w.heap.size, 1, none⟩ = some (.string nm) := by rw [cell_at T.out.op]; rfl
  have o2 : w1.cell? ⟨w.heap.size, 2, none⟩ = some (.string tx) := by rw [cell_at T.out.op]; rfl
  have o3 : w1.cell? ⟨w.heap.size, 3, none⟩ = some (.int .i64 n) := by rw [cell_at T.out.op]; rfl
  have o4 : w1.cell? ⟨w.heap.size, 4, none⟩ = some (.int .i64 m) := by rw [cell_at T.out.op]; rfl
  by_cases s1 : (nm.size : Int) < 1
  · have es1 : decide ((nm.size : Int) < 1) = true := by simp; omega
    go_wp2
    go_ret
    have Z : chkR 1 16 0 0 0 0 0 0 nm.size tx.size n m = 51 := by
      revert s1
      generalize nm.size = s
      generalize tx.size = t
      intro s1
      simp [chkR, wr, ex, hs, hl] <;> omega
    exact ⟨by rw [Z]; rfl, T.out.below⟩
  have es1 : decide ((nm.size : Int) < 1) = false := by simp; omega
  by_cases s2 : (16 : Int) < (nm.size : Int)
  · have es2 : decide ((16 : Int) < (nm.size : Int)) = true := by simp; omega
    go_wp2
    go_ret
    have Z : chkR 1 16 0 0 0 0 0 0 nm.size tx.size n m = 51 := by
      revert s1 s2
      generalize nm.size = s
      generalize tx.size = t
      intro s1 s2
      simp [chkR, wr, ex, hs, hl] <;> omega
    exact ⟨by rw [Z]; rfl, T.out.below⟩
  have es2 : decide ((16 : Int) < (nm.size : Int)) = false := by simp; omega
  go_wp2
  go_quiet (first | (go_at_call 152; exact Calls.quiet_of_same (L.out _)))
  have T := hid (T.out.drewN nq)
  clear o0 o1 o2 o3 o4
  generalize w1.drewN nq = w2 at T ⊢
  have o0 : w2.cell? ⟨w.heap.size, 0, none⟩ = some (.int .i64 1) := by rw [cell_at T.out.op]; rfl
  have o1 : w2.cell? ⟨w.heap.size, 1, none⟩ = some (.string nm) := by rw [cell_at T.out.op]; rfl
  have o2 : w2.cell? ⟨w.heap.size, 2, none⟩ = some (.string tx) := by rw [cell_at T.out.op]; rfl
  have o3 : w2.cell? ⟨w.heap.size, 3, none⟩ = some (.int .i64 n) := by rw [cell_at T.out.op]; rfl
  have o4 : w2.cell? ⟨w.heap.size, 4, none⟩ = some (.int .i64 m) := by rw [cell_at T.out.op]; rfl
  go_wp2_with fail
  refine (M.out _).mono ?_
  rintro e w3 ⟨rfl, rfl⟩
  go_wp2_with fail
  refine (N.out _).mono ?_
  rintro e w4 ⟨rfl, rfl⟩
  go_wp2_with fail
  refine (L.out _).mono ?_
  rintro e w5 ⟨rfl, rfl⟩
  by_cases x2 : tx.size = 0
  case neg =>
    have qtx := nonempty tx x2
    go_wp2
    go_ret
    have Z : chkR 1 16 0 0 0 0 0 0 nm.size tx.size n m = 55 := by
      revert s1 s2 x2
      generalize nm.size = s
      generalize tx.size = t
      intro s1 s2 x2
      simp [chkR, wr, ex, hs, hl] <;> omega
    exact ⟨by rw [Z]; rfl, T.out.below⟩
  have qtx := isempty tx x2
  go_wp2_with fail
  refine (M.out _).mono ?_
  rintro e w6 ⟨rfl, rfl⟩
  by_cases x3 : n = 0
  case neg =>
    have qn : (n != 0) = true := by simpa using x3
    go_wp2
    go_ret
    have Z : chkR 1 16 0 0 0 0 0 0 nm.size tx.size n m = 55 := by
      revert s1 s2 x2 x3
      generalize nm.size = s
      generalize tx.size = t
      intro s1 s2 x2 x3
      simp [chkR, wr, ex, hs, hl] <;> omega
    exact ⟨by rw [Z]; rfl, T.out.below⟩
  have qn : (n != 0) = false := by simpa using x3
  have xx3 := hid x3
  clear x3
  by_cases x4 : m = 0
  case neg =>
    have qm : (m != 0) = true := by simpa using x4
    go_wp2
    go_ret
    have Z : chkR 1 16 0 0 0 0 0 0 nm.size tx.size n m = 55 := by
      revert s1 s2 x2 xx3 x4
      generalize nm.size = s
      generalize tx.size = t
      intro s1 s2 x2 xx3 x4
      have xx3 := xx3.out
      simp [chkR, wr, ex, hs, hl] <;> omega
    exact ⟨by rw [Z]; rfl, T.out.below⟩
  have qm : (m != 0) = false := by simpa using x4
  have xx4 := hid x4
  clear x4
  go_wp2
  go_ret
  have Z : chkR 1 16 0 0 0 0 0 0 nm.size tx.size n m = 0 := by
    revert s1 s2 x2 xx3 xx4
    generalize nm.size = s
    generalize tx.size = t
    intro s1 s2 x2 xx3 xx4
    have xx3 := xx3.out
    have xx4 := xx4.out
    simp [chkR, wr, ex, hs, hl] <;> omega
  exact ⟨by rw [Z]; rfl, T.out.below⟩

set_option maxHeartbeats 3200000 in
set_option maxRecDepth 1000000 in
theorem rc2 {w : World} (nm tx : ByteArray) (n m : Int) : Calls Tryz.prog 114 #[opV 2 nm tx n m] w fun e w' => e = .returned (.int .i64 (chkR 1 16 0 0 0 0 0 0 nm.size tx.size n m)) ∧ Below w.heap.size w w' := by
  have N : ∀ W : World, Calls Tryz.prog 151 #[.int .i64 2] W fun e w' => e = .returned (.bool true) ∧ w' = W := fun W => hasName_any 2
  have L : ∀ W : World, Calls Tryz.prog 152 #[.int .i64 2] W fun e w' => e = .returned (.int .i64 (-1)) ∧ w' = W := fun W => textMost_any 2
  have S : ∀ W : World, Calls Tryz.prog 153 #[.int .i64 2] W fun e w' => e = .returned (.int .i64 0) ∧ w' = W := fun W => textLeast_any 2
  have M : ∀ W : World, Calls Tryz.prog 154 #[.int .i64 2] W fun e w' => e = .returned (.bool false) ∧ w' = W := fun W => hasNum_any 2
  have N := hid N
  have L := hid L
  have S := hid S
  have M := hid M
  go_enter Tryz.func114, Tryz.ntmps114
  go_wp2_with fail
  refine (N.out _).mono ?_
  rintro e w1 ⟨rfl, hw⟩
  have T := hid (Bx.first w 2 nm tx n m)
  have T : Hid (Bx w w1 2 nm tx n m) := hid (by rw [hw]; exact T.out)
  clear hw
  have o0 : w1.cell? ⟨w.heap.size, 0, none⟩ = some (.int .i64 2) := by rw [cell_at T.out.op]; rfl
  have o1 : w1.cell? ⟨w.heap.size, 1, none⟩ = some (.string nm) := by rw [cell_at T.out.op]; rfl
  have o2 : w1.cell? ⟨w.heap.size, 2, none⟩ = some (.string tx) := by rw [cell_at T.out.op]; rfl
  have o3 : w1.cell? ⟨w.heap.size, 3, none⟩ = some (.int .i64 n) := by rw [cell_at T.out.op]; rfl
  have o4 : w1.cell? ⟨w.heap.size, 4, none⟩ = some (.int .i64 m) := by rw [cell_at T.out.op]; rfl
  by_cases s1 : (nm.size : Int) < 1
  · have es1 : decide ((nm.size : Int) < 1) = true := by simp; omega
    go_wp2
    go_ret
    have Z : chkR 1 16 0 0 0 0 0 0 nm.size tx.size n m = 51 := by
      revert s1
      generalize nm.size = s
      generalize tx.size = t
      intro s1
      simp [chkR, wr, ex, hs, hl] <;> omega
    exact ⟨by rw [Z]; rfl, T.out.below⟩
  have es1 : decide ((nm.size : Int) < 1) = false := by simp; omega
  by_cases s2 : (16 : Int) < (nm.size : Int)
  · have es2 : decide ((16 : Int) < (nm.size : Int)) = true := by simp; omega
    go_wp2
    go_ret
    have Z : chkR 1 16 0 0 0 0 0 0 nm.size tx.size n m = 51 := by
      revert s1 s2
      generalize nm.size = s
      generalize tx.size = t
      intro s1 s2
      simp [chkR, wr, ex, hs, hl] <;> omega
    exact ⟨by rw [Z]; rfl, T.out.below⟩
  have es2 : decide ((16 : Int) < (nm.size : Int)) = false := by simp; omega
  go_wp2
  go_quiet (first | (go_at_call 152; exact Calls.quiet_of_same (L.out _)))
  have T := hid (T.out.drewN nq)
  clear o0 o1 o2 o3 o4
  generalize w1.drewN nq = w2 at T ⊢
  have o0 : w2.cell? ⟨w.heap.size, 0, none⟩ = some (.int .i64 2) := by rw [cell_at T.out.op]; rfl
  have o1 : w2.cell? ⟨w.heap.size, 1, none⟩ = some (.string nm) := by rw [cell_at T.out.op]; rfl
  have o2 : w2.cell? ⟨w.heap.size, 2, none⟩ = some (.string tx) := by rw [cell_at T.out.op]; rfl
  have o3 : w2.cell? ⟨w.heap.size, 3, none⟩ = some (.int .i64 n) := by rw [cell_at T.out.op]; rfl
  have o4 : w2.cell? ⟨w.heap.size, 4, none⟩ = some (.int .i64 m) := by rw [cell_at T.out.op]; rfl
  go_wp2_with fail
  refine (M.out _).mono ?_
  rintro e w3 ⟨rfl, rfl⟩
  go_wp2_with fail
  refine (N.out _).mono ?_
  rintro e w4 ⟨rfl, rfl⟩
  go_wp2_with fail
  refine (L.out _).mono ?_
  rintro e w5 ⟨rfl, rfl⟩
  by_cases x2 : tx.size = 0
  case neg =>
    have qtx := nonempty tx x2
    go_wp2
    go_ret
    have Z : chkR 1 16 0 0 0 0 0 0 nm.size tx.size n m = 55 := by
      revert s1 s2 x2
      generalize nm.size = s
      generalize tx.size = t
      intro s1 s2 x2
      simp [chkR, wr, ex, hs, hl] <;> omega
    exact ⟨by rw [Z]; rfl, T.out.below⟩
  have qtx := isempty tx x2
  go_wp2_with fail
  refine (M.out _).mono ?_
  rintro e w6 ⟨rfl, rfl⟩
  by_cases x3 : n = 0
  case neg =>
    have qn : (n != 0) = true := by simpa using x3
    go_wp2
    go_ret
    have Z : chkR 1 16 0 0 0 0 0 0 nm.size tx.size n m = 55 := by
      revert s1 s2 x2 x3
      generalize nm.size = s
      generalize tx.size = t
      intro s1 s2 x2 x3
      simp [chkR, wr, ex, hs, hl] <;> omega
    exact ⟨by rw [Z]; rfl, T.out.below⟩
  have qn : (n != 0) = false := by simpa using x3
  have xx3 := hid x3
  clear x3
  by_cases x4 : m = 0
  case neg =>
    have qm : (m != 0) = true := by simpa using x4
    go_wp2
    go_ret
    have Z : chkR 1 16 0 0 0 0 0 0 nm.size tx.size n m = 55 := by
      revert s1 s2 x2 xx3 x4
      generalize nm.size = s
      generalize tx.size = t
      intro s1 s2 x2 xx3 x4
      have xx3 := xx3.out
      simp [chkR, wr, ex, hs, hl] <;> omega
    exact ⟨by rw [Z]; rfl, T.out.below⟩
  have qm : (m != 0) = false := by simpa using x4
  have xx4 := hid x4
  clear x4
  go_wp2
  go_ret
  have Z : chkR 1 16 0 0 0 0 0 0 nm.size tx.size n m = 0 := by
    revert s1 s2 x2 xx3 xx4
    generalize nm.size = s
    generalize tx.size = t
    intro s1 s2 x2 xx3 xx4
    have xx3 := xx3.out
    have xx4 := xx4.out
    simp [chkR, wr, ex, hs, hl] <;> omega
  exact ⟨by rw [Z]; rfl, T.out.below⟩

set_option maxHeartbeats 3200000 in
set_option maxRecDepth 1000000 in
theorem rc3 {w : World} (nm tx : ByteArray) (n m : Int) : Calls Tryz.prog 114 #[opV 3 nm tx n m] w fun e w' => e = .returned (.int .i64 (chkR 1 16 0 64 0 0 0 0 nm.size tx.size n m)) ∧ Below w.heap.size w w' := by
  have N : ∀ W : World, Calls Tryz.prog 151 #[.int .i64 3] W fun e w' => e = .returned (.bool true) ∧ w' = W := fun W => hasName_any 3
  have L : ∀ W : World, Calls Tryz.prog 152 #[.int .i64 3] W fun e w' => e = .returned (.int .i64 64) ∧ w' = W := fun W => textMost_any 3
  have S : ∀ W : World, Calls Tryz.prog 153 #[.int .i64 3] W fun e w' => e = .returned (.int .i64 0) ∧ w' = W := fun W => textLeast_any 3
  have M : ∀ W : World, Calls Tryz.prog 154 #[.int .i64 3] W fun e w' => e = .returned (.bool false) ∧ w' = W := fun W => hasNum_any 3
  have N := hid N
  have L := hid L
  have S := hid S
  have M := hid M
  go_enter Tryz.func114, Tryz.ntmps114
  go_wp2_with fail
  refine (N.out _).mono ?_
  rintro e w1 ⟨rfl, hw⟩
  have T := hid (Bx.first w 3 nm tx n m)
  have T : Hid (Bx w w1 3 nm tx n m) := hid (by rw [hw]; exact T.out)
  clear hw
  have o0 : w1.cell? ⟨w.heap.size, 0, none⟩ = some (.int .i64 3) := by rw [cell_at T.out.op]; rfl
  have o1 : w1.cell? ⟨w.heap.size, 1, none⟩ = some (.string nm) := by rw [cell_at T.out.op]; rfl
  have o2 : w1.cell? ⟨w.heap.size, 2, none⟩ = some (.string tx) := by rw [cell_at T.out.op]; rfl
  have o3 : w1.cell? ⟨w.heap.size, 3, none⟩ = some (.int .i64 n) := by rw [cell_at T.out.op]; rfl
  have o4 : w1.cell? ⟨w.heap.size, 4, none⟩ = some (.int .i64 m) := by rw [cell_at T.out.op]; rfl
  by_cases s1 : (nm.size : Int) < 1
  · have es1 : decide ((nm.size : Int) < 1) = true := by simp; omega
    go_wp2
    go_ret
    have Z : chkR 1 16 0 64 0 0 0 0 nm.size tx.size n m = 51 := by
      revert s1
      generalize nm.size = s
      generalize tx.size = t
      intro s1
      simp [chkR, wr, ex, hs, hl] <;> omega
    exact ⟨by rw [Z]; rfl, T.out.below⟩
  have es1 : decide ((nm.size : Int) < 1) = false := by simp; omega
  by_cases s2 : (16 : Int) < (nm.size : Int)
  · have es2 : decide ((16 : Int) < (nm.size : Int)) = true := by simp; omega
    go_wp2
    go_ret
    have Z : chkR 1 16 0 64 0 0 0 0 nm.size tx.size n m = 51 := by
      revert s1 s2
      generalize nm.size = s
      generalize tx.size = t
      intro s1 s2
      simp [chkR, wr, ex, hs, hl] <;> omega
    exact ⟨by rw [Z]; rfl, T.out.below⟩
  have es2 : decide ((16 : Int) < (nm.size : Int)) = false := by simp; omega
  have et1 : decide ((tx.size : Int) < 0) = false := by simp
  by_cases t2 : (64 : Int) < (tx.size : Int)
  · have et2 : decide ((64 : Int) < (tx.size : Int)) = true := by simp; omega
    go_wp2
    go_quiet (first | (go_at_call 152; exact Calls.quiet_of_same (L.out _)) | (go_at_call 153; exact Calls.quiet_of_same (S.out _)))
    have T := hid (T.out.drewN nq)
    clear o0 o1 o2 o3 o4
    generalize w1.drewN nq = w2 at T ⊢
    have o0 : w2.cell? ⟨w.heap.size, 0, none⟩ = some (.int .i64 3) := by rw [cell_at T.out.op]; rfl
    have o1 : w2.cell? ⟨w.heap.size, 1, none⟩ = some (.string nm) := by rw [cell_at T.out.op]; rfl
    have o2 : w2.cell? ⟨w.heap.size, 2, none⟩ = some (.string tx) := by rw [cell_at T.out.op]; rfl
    have o3 : w2.cell? ⟨w.heap.size, 3, none⟩ = some (.int .i64 n) := by rw [cell_at T.out.op]; rfl
    have o4 : w2.cell? ⟨w.heap.size, 4, none⟩ = some (.int .i64 m) := by rw [cell_at T.out.op]; rfl
    go_wp2
    go_ret
    have Z : chkR 1 16 0 64 0 0 0 0 nm.size tx.size n m = 52 := by
      revert s1 s2 t2
      generalize nm.size = s
      generalize tx.size = t
      intro s1 s2 t2
      simp [chkR, wr, ex, hs, hl] <;> omega
    exact ⟨by rw [Z]; rfl, T.out.below⟩
  have et2 : decide ((64 : Int) < (tx.size : Int)) = false := by simp; omega
  go_wp2
  go_quiet (first | (go_at_call 152; exact Calls.quiet_of_same (L.out _)) | (go_at_call 153; exact Calls.quiet_of_same (S.out _)))
  have T := hid (T.out.drewN nq)
  clear o0 o1 o2 o3 o4
  generalize w1.drewN nq = w2 at T ⊢
  have o0 : w2.cell? ⟨w.heap.size, 0, none⟩ = some (.int .i64 3) := by rw [cell_at T.out.op]; rfl
  have o1 : w2.cell? ⟨w.heap.size, 1, none⟩ = some (.string nm) := by rw [cell_at T.out.op]; rfl
  have o2 : w2.cell? ⟨w.heap.size, 2, none⟩ = some (.string tx) := by rw [cell_at T.out.op]; rfl
  have o3 : w2.cell? ⟨w.heap.size, 3, none⟩ = some (.int .i64 n) := by rw [cell_at T.out.op]; rfl
  have o4 : w2.cell? ⟨w.heap.size, 4, none⟩ = some (.int .i64 m) := by rw [cell_at T.out.op]; rfl
  go_wp2_with fail
  refine (M.out _).mono ?_
  rintro e w3 ⟨rfl, rfl⟩
  go_wp2_with fail
  refine (N.out _).mono ?_
  rintro e w4 ⟨rfl, rfl⟩
  go_wp2_with fail
  refine (L.out _).mono ?_
  rintro e w5 ⟨rfl, rfl⟩
  go_wp2_with fail
  refine (M.out _).mono ?_
  rintro e w6 ⟨rfl, rfl⟩
  by_cases x3 : n = 0
  case neg =>
    have qn : (n != 0) = true := by simpa using x3
    go_wp2
    go_ret
    have Z : chkR 1 16 0 64 0 0 0 0 nm.size tx.size n m = 55 := by
      revert s1 s2 t2 x3
      generalize nm.size = s
      generalize tx.size = t
      intro s1 s2 t2 x3
      simp [chkR, wr, ex, hs, hl] <;> omega
    exact ⟨by rw [Z]; rfl, T.out.below⟩
  have qn : (n != 0) = false := by simpa using x3
  have xx3 := hid x3
  clear x3
  by_cases x4 : m = 0
  case neg =>
    have qm : (m != 0) = true := by simpa using x4
    go_wp2
    go_ret
    have Z : chkR 1 16 0 64 0 0 0 0 nm.size tx.size n m = 55 := by
      revert s1 s2 t2 xx3 x4
      generalize nm.size = s
      generalize tx.size = t
      intro s1 s2 t2 xx3 x4
      have xx3 := xx3.out
      simp [chkR, wr, ex, hs, hl] <;> omega
    exact ⟨by rw [Z]; rfl, T.out.below⟩
  have qm : (m != 0) = false := by simpa using x4
  have xx4 := hid x4
  clear x4
  go_wp2
  go_ret
  have Z : chkR 1 16 0 64 0 0 0 0 nm.size tx.size n m = 0 := by
    revert s1 s2 t2 xx3 xx4
    generalize nm.size = s
    generalize tx.size = t
    intro s1 s2 t2 xx3 xx4
    have xx3 := xx3.out
    have xx4 := xx4.out
    simp [chkR, wr, ex, hs, hl] <;> omega
  exact ⟨by rw [Z]; rfl, T.out.below⟩

set_option maxHeartbeats 3200000 in
set_option maxRecDepth 1000000 in
theorem rc4 {w : World} (nm tx : ByteArray) (n m : Int) : Calls Tryz.prog 114 #[opV 4 nm tx n m] w fun e w' => e = .returned (.int .i64 (chkR 1 16 0 0 0 1099511627776 0 0 nm.size tx.size n m)) ∧ Below w.heap.size w w' := by
  have N : ∀ W : World, Calls Tryz.prog 151 #[.int .i64 4] W fun e w' => e = .returned (.bool true) ∧ w' = W := fun W => hasName_any 4
  have L : ∀ W : World, Calls Tryz.prog 152 #[.int .i64 4] W fun e w' => e = .returned (.int .i64 (-1)) ∧ w' = W := fun W => textMost_any 4
  have S : ∀ W : World, Calls Tryz.prog 153 #[.int .i64 4] W fun e w' => e = .returned (.int .i64 0) ∧ w' = W := fun W => textLeast_any 4
  have M : ∀ W : World, Calls Tryz.prog 154 #[.int .i64 4] W fun e w' => e = .returned (.bool true) ∧ w' = W := fun W => hasNum_any 4
  have N := hid N
  have L := hid L
  have S := hid S
  have M := hid M
  go_enter Tryz.func114, Tryz.ntmps114
  go_wp2_with fail
  refine (N.out _).mono ?_
  rintro e w1 ⟨rfl, hw⟩
  have T := hid (Bx.first w 4 nm tx n m)
  have T : Hid (Bx w w1 4 nm tx n m) := hid (by rw [hw]; exact T.out)
  clear hw
  have o0 : w1.cell? ⟨w.heap.size, 0, none⟩ = some (.int .i64 4) := by rw [cell_at T.out.op]; rfl
  have o1 : w1.cell? ⟨w.heap.size, 1, none⟩ = some (.string nm) := by rw [cell_at T.out.op]; rfl
  have o2 : w1.cell? ⟨w.heap.size, 2, none⟩ = some (.string tx) := by rw [cell_at T.out.op]; rfl
  have o3 : w1.cell? ⟨w.heap.size, 3, none⟩ = some (.int .i64 n) := by rw [cell_at T.out.op]; rfl
  have o4 : w1.cell? ⟨w.heap.size, 4, none⟩ = some (.int .i64 m) := by rw [cell_at T.out.op]; rfl
  by_cases s1 : (nm.size : Int) < 1
  · have es1 : decide ((nm.size : Int) < 1) = true := by simp; omega
    go_wp2
    go_ret
    have Z : chkR 1 16 0 0 0 1099511627776 0 0 nm.size tx.size n m = 51 := by
      revert s1
      generalize nm.size = s
      generalize tx.size = t
      intro s1
      simp [chkR, wr, ex, hs, hl] <;> omega
    exact ⟨by rw [Z]; rfl, T.out.below⟩
  have es1 : decide ((nm.size : Int) < 1) = false := by simp; omega
  by_cases s2 : (16 : Int) < (nm.size : Int)
  · have es2 : decide ((16 : Int) < (nm.size : Int)) = true := by simp; omega
    go_wp2
    go_ret
    have Z : chkR 1 16 0 0 0 1099511627776 0 0 nm.size tx.size n m = 51 := by
      revert s1 s2
      generalize nm.size = s
      generalize tx.size = t
      intro s1 s2
      simp [chkR, wr, ex, hs, hl] <;> omega
    exact ⟨by rw [Z]; rfl, T.out.below⟩
  have es2 : decide ((16 : Int) < (nm.size : Int)) = false := by simp; omega
  go_wp2
  go_quiet (first | (go_at_call 152; exact Calls.quiet_of_same (L.out _)))
  have T := hid (T.out.drewN nq)
  clear o0 o1 o2 o3 o4
  generalize w1.drewN nq = w2 at T ⊢
  have o0 : w2.cell? ⟨w.heap.size, 0, none⟩ = some (.int .i64 4) := by rw [cell_at T.out.op]; rfl
  have o1 : w2.cell? ⟨w.heap.size, 1, none⟩ = some (.string nm) := by rw [cell_at T.out.op]; rfl
  have o2 : w2.cell? ⟨w.heap.size, 2, none⟩ = some (.string tx) := by rw [cell_at T.out.op]; rfl
  have o3 : w2.cell? ⟨w.heap.size, 3, none⟩ = some (.int .i64 n) := by rw [cell_at T.out.op]; rfl
  have o4 : w2.cell? ⟨w.heap.size, 4, none⟩ = some (.int .i64 m) := by rw [cell_at T.out.op]; rfl
  go_wp2_with fail
  refine (M.out _).mono ?_
  rintro e w3 ⟨rfl, rfl⟩
  by_cases n1 : n < 0
  · have en1 : decide (n < 0) = true := by simp; omega
    go_wp2
    go_ret
    have Z : chkR 1 16 0 0 0 1099511627776 0 0 nm.size tx.size n m = 53 := by
      revert s1 s2 n1
      generalize nm.size = s
      generalize tx.size = t
      intro s1 s2 n1
      simp [chkR, wr, ex, hs, hl] <;> omega
    exact ⟨by rw [Z]; rfl, T.out.below⟩
  have en1 : decide (n < 0) = false := by simp; omega
  by_cases n2 : (1099511627776 : Int) < n
  · have en2 : decide ((1099511627776 : Int) < n) = true := by simp; omega
    go_wp2
    go_ret
    have Z : chkR 1 16 0 0 0 1099511627776 0 0 nm.size tx.size n m = 53 := by
      revert s1 s2 n1 n2
      generalize nm.size = s
      generalize tx.size = t
      intro s1 s2 n1 n2
      simp [chkR, wr, ex, hs, hl] <;> omega
    exact ⟨by rw [Z]; rfl, T.out.below⟩
  have en2 : decide ((1099511627776 : Int) < n) = false := by simp; omega
  go_wp2_with fail
  refine (N.out _).mono ?_
  rintro e w4 ⟨rfl, rfl⟩
  go_wp2_with fail
  refine (L.out _).mono ?_
  rintro e w5 ⟨rfl, rfl⟩
  by_cases x2 : tx.size = 0
  case neg =>
    have qtx := nonempty tx x2
    go_wp2
    go_ret
    have Z : chkR 1 16 0 0 0 1099511627776 0 0 nm.size tx.size n m = 55 := by
      revert s1 s2 n1 n2 x2
      generalize nm.size = s
      generalize tx.size = t
      intro s1 s2 n1 n2 x2
      simp [chkR, wr, ex, hs, hl] <;> omega
    exact ⟨by rw [Z]; rfl, T.out.below⟩
  have qtx := isempty tx x2
  go_wp2_with fail
  refine (M.out _).mono ?_
  rintro e w6 ⟨rfl, rfl⟩
  by_cases x4 : m = 0
  case neg =>
    have qm : (m != 0) = true := by simpa using x4
    go_wp2
    go_ret
    have Z : chkR 1 16 0 0 0 1099511627776 0 0 nm.size tx.size n m = 55 := by
      revert s1 s2 n1 n2 x2 x4
      generalize nm.size = s
      generalize tx.size = t
      intro s1 s2 n1 n2 x2 x4
      simp [chkR, wr, ex, hs, hl] <;> omega
    exact ⟨by rw [Z]; rfl, T.out.below⟩
  have qm : (m != 0) = false := by simpa using x4
  have xx4 := hid x4
  clear x4
  go_wp2
  go_ret
  have Z : chkR 1 16 0 0 0 1099511627776 0 0 nm.size tx.size n m = 0 := by
    revert s1 s2 n1 n2 x2 xx4
    generalize nm.size = s
    generalize tx.size = t
    intro s1 s2 n1 n2 x2 xx4
    have xx4 := xx4.out
    simp [chkR, wr, ex, hs, hl] <;> omega
  exact ⟨by rw [Z]; rfl, T.out.below⟩
end Go.Proofs.YtdhkdniddjnigaaGreatDoor

namespace Go.Proofs.YtdhkdniddjnigaaGreatDoor
open Go.RowKit
set_option linter.unusedVariables false

set_option maxHeartbeats 3200000 in
set_option maxRecDepth 1000000 in
theorem rc5 {w : World} (nm tx : ByteArray) (n m : Int) : Calls Tryz.prog 114 #[opV 5 nm tx n m] w fun e w' => e = .returned (.int .i64 (chkR 1 16 1 16 0 0 0 0 nm.size tx.size n m)) ∧ Below w.heap.size w w' := by
  have N : ∀ W : World, Calls Tryz.prog 151 #[.int .i64 5] W fun e w' => e = .returned (.bool true) ∧ w' = W := fun W => hasName_any 5
  have L : ∀ W : World, Calls Tryz.prog 152 #[.int .i64 5] W fun e w' => e = .returned (.int .i64 16) ∧ w' = W := fun W => textMost_any 5
  have S : ∀ W : World, Calls Tryz.prog 153 #[.int .i64 5] W fun e w' => e = .returned (.int .i64 1) ∧ w' = W := fun W => textLeast_any 5
  have M : ∀ W : World, Calls Tryz.prog 154 #[.int .i64 5] W fun e w' => e = .returned (.bool false) ∧ w' = W := fun W => hasNum_any 5
  have N := hid N
  have L := hid L
  have S := hid S
  have M := hid M
  go_enter Tryz.func114, Tryz.ntmps114
  go_wp2_with fail
  refine (N.out _).mono ?_
  rintro e w1 ⟨rfl, hw⟩
  have T := hid (Bx.first w 5 nm tx n m)
  have T : Hid (Bx w w1 5 nm tx n m) := hid (by rw [hw]; exact T.out)
  clear hw
  have o0 : w1.cell? ⟨w.heap.size, 0, none⟩ = some (.int .i64 5) := by rw [cell_at T.out.op]; rfl
  have o1 : w1.cell? ⟨w.heap.size, 1, none⟩ = some (.string nm) := by rw [cell_at T.out.op]; rfl
  have o2 : w1.cell? ⟨w.heap.size, 2, none⟩ = some (.string tx) := by rw [cell_at T.out.op]; rfl
  have o3 : w1.cell? ⟨w.heap.size, 3, none⟩ = some (.int .i64 n) := by rw [cell_at T.out.op]; rfl
  have o4 : w1.cell? ⟨w.heap.size, 4, none⟩ = some (.int .i64 m) := by rw [cell_at T.out.op]; rfl
  by_cases s1 : (nm.size : Int) < 1
  · have es1 : decide ((nm.size : Int) < 1) = true := by simp; omega
    go_wp2
    go_ret
    have Z : chkR 1 16 1 16 0 0 0 0 nm.size tx.size n m = 51 := by
      revert s1
      generalize nm.size = s
      generalize tx.size = t
      intro s1
      simp [chkR, wr, ex, hs, hl] <;> omega
    exact ⟨by rw [Z]; rfl, T.out.below⟩
  have es1 : decide ((nm.size : Int) < 1) = false := by simp; omega
  by_cases s2 : (16 : Int) < (nm.size : Int)
  · have es2 : decide ((16 : Int) < (nm.size : Int)) = true := by simp; omega
    go_wp2
    go_ret
    have Z : chkR 1 16 1 16 0 0 0 0 nm.size tx.size n m = 51 := by
      revert s1 s2
      generalize nm.size = s
      generalize tx.size = t
      intro s1 s2
      simp [chkR, wr, ex, hs, hl] <;> omega
    exact ⟨by rw [Z]; rfl, T.out.below⟩
  have es2 : decide ((16 : Int) < (nm.size : Int)) = false := by simp; omega
  by_cases t1 : (tx.size : Int) < 1
  · have et1 : decide ((tx.size : Int) < 1) = true := by simp; omega
    go_wp2
    go_quiet (first | (go_at_call 152; exact Calls.quiet_of_same (L.out _)) | (go_at_call 153; exact Calls.quiet_of_same (S.out _)))
    have T := hid (T.out.drewN nq)
    clear o0 o1 o2 o3 o4
    generalize w1.drewN nq = w2 at T ⊢
    have o0 : w2.cell? ⟨w.heap.size, 0, none⟩ = some (.int .i64 5) := by rw [cell_at T.out.op]; rfl
    have o1 : w2.cell? ⟨w.heap.size, 1, none⟩ = some (.string nm) := by rw [cell_at T.out.op]; rfl
    have o2 : w2.cell? ⟨w.heap.size, 2, none⟩ = some (.string tx) := by rw [cell_at T.out.op]; rfl
    have o3 : w2.cell? ⟨w.heap.size, 3, none⟩ = some (.int .i64 n) := by rw [cell_at T.out.op]; rfl
    have o4 : w2.cell? ⟨w.heap.size, 4, none⟩ = some (.int .i64 m) := by rw [cell_at T.out.op]; rfl
    go_wp2
    go_ret
    have Z : chkR 1 16 1 16 0 0 0 0 nm.size tx.size n m = 52 := by
      revert s1 s2 t1
      generalize nm.size = s
      generalize tx.size = t
      intro s1 s2 t1
      simp [chkR, wr, ex, hs, hl] <;> omega
    exact ⟨by rw [Z]; rfl, T.out.below⟩
  have et1 : decide ((tx.size : Int) < 1) = false := by simp; omega
  by_cases t2 : (16 : Int) < (tx.size : Int)
  · have et2 : decide ((16 : Int) < (tx.size : Int)) = true := by simp; omega
    go_wp2
    go_quiet (first | (go_at_call 152; exact Calls.quiet_of_same (L.out _)) | (go_at_call 153; exact Calls.quiet_of_same (S.out _)))
    have T := hid (T.out.drewN nq)
    clear o0 o1 o2 o3 o4
    generalize w1.drewN nq = w2 at T ⊢
    have o0 : w2.cell? ⟨w.heap.size, 0, none⟩ = some (.int .i64 5) := by rw [cell_at T.out.op]; rfl
    have o1 : w2.cell? ⟨w.heap.size, 1, none⟩ = some (.string nm) := by rw [cell_at T.out.op]; rfl
    have o2 : w2.cell? ⟨w.heap.size, 2, none⟩ = some (.string tx) := by rw [cell_at T.out.op]; rfl
    have o3 : w2.cell? ⟨w.heap.size, 3, none⟩ = some (.int .i64 n) := by rw [cell_at T.out.op]; rfl
    have o4 : w2.cell? ⟨w.heap.size, 4, none⟩ = some (.int .i64 m) := by rw [cell_at T.out.op]; rfl
    go_wp2
    go_ret
    have Z : chkR 1 16 1 16 0 0 0 0 nm.size tx.size n m = 52 := by
      revert s1 s2 t1 t2
      generalize nm.size = s
      generalize tx.size = t
      intro s1 s2 t1 t2
      simp [chkR, wr, ex, hs, hl] <;> omega
    exact ⟨by rw [Z]; rfl, T.out.below⟩
  have et2 : decide ((16 : Int) < (tx.size : Int)) = false := by simp; omega
  go_wp2
  go_quiet (first | (go_at_call 152; exact Calls.quiet_of_same (L.out _)) | (go_at_call 153; exact Calls.quiet_of_same (S.out _)))
  have T := hid (T.out.drewN nq)
  clear o0 o1 o2 o3 o4
  generalize w1.drewN nq = w2 at T ⊢
  have o0 : w2.cell? ⟨w.heap.size, 0, none⟩ = some (.int .i64 5) := by rw [cell_at T.out.op]; rfl
  have o1 : w2.cell? ⟨w.heap.size, 1, none⟩ = some (.string nm) := by rw [cell_at T.out.op]; rfl
  have o2 : w2.cell? ⟨w.heap.size, 2, none⟩ = some (.string tx) := by rw [cell_at T.out.op]; rfl
  have o3 : w2.cell? ⟨w.heap.size, 3, none⟩ = some (.int .i64 n) := by rw [cell_at T.out.op]; rfl
  have o4 : w2.cell? ⟨w.heap.size, 4, none⟩ = some (.int .i64 m) := by rw [cell_at T.out.op]; rfl
  go_wp2_with fail
  refine (M.out _).mono ?_
  rintro e w3 ⟨rfl, rfl⟩
  go_wp2_with fail
  refine (N.out _).mono ?_
  rintro e w4 ⟨rfl, rfl⟩
  go_wp2_with fail
  refine (L.out _).mono ?_
  rintro e w5 ⟨rfl, rfl⟩
  go_wp2_with fail
  refine (M.out _).mono ?_
  rintro e w6 ⟨rfl, rfl⟩
  by_cases x3 : n = 0
  case neg =>
    have qn : (n != 0) = true := by simpa using x3
    go_wp2
    go_ret
    have Z : chkR 1 16 1 16 0 0 0 0 nm.size tx.size n m = 55 := by
      revert s1 s2 t1 t2 x3
      generalize nm.size = s
      generalize tx.size = t
      intro s1 s2 t1 t2 x3
      simp [chkR, wr, ex, hs, hl] <;> omega
    exact ⟨by rw [Z]; rfl, T.out.below⟩
  have qn : (n != 0) = false := by simpa using x3
  have xx3 := hid x3
  clear x3
  by_cases x4 : m = 0
  case neg =>
    have qm : (m != 0) = true := by simpa using x4
    go_wp2
    go_ret
    have Z : chkR 1 16 1 16 0 0 0 0 nm.size tx.size n m = 55 := by
      revert s1 s2 t1 t2 xx3 x4
      generalize nm.size = s
      generalize tx.size = t
      intro s1 s2 t1 t2 xx3 x4
      have xx3 := xx3.out
      simp [chkR, wr, ex, hs, hl] <;> omega
    exact ⟨by rw [Z]; rfl, T.out.below⟩
  have qm : (m != 0) = false := by simpa using x4
  have xx4 := hid x4
  clear x4
  go_wp2
  go_ret
  have Z : chkR 1 16 1 16 0 0 0 0 nm.size tx.size n m = 0 := by
    revert s1 s2 t1 t2 xx3 xx4
    generalize nm.size = s
    generalize tx.size = t
    intro s1 s2 t1 t2 xx3 xx4
    have xx3 := xx3.out
    have xx4 := xx4.out
    simp [chkR, wr, ex, hs, hl] <;> omega
  exact ⟨by rw [Z]; rfl, T.out.below⟩

set_option maxHeartbeats 3200000 in
set_option maxRecDepth 1000000 in
theorem rc6 {w : World} (nm tx : ByteArray) (n m : Int) : Calls Tryz.prog 114 #[opV 6 nm tx n m] w fun e w' => e = .returned (.int .i64 (chkR 1 16 0 0 0 1099511627776 1 8 nm.size tx.size n m)) ∧ Below w.heap.size w w' := by
  have N : ∀ W : World, Calls Tryz.prog 151 #[.int .i64 6] W fun e w' => e = .returned (.bool true) ∧ w' = W := fun W => hasName_any 6
  have L : ∀ W : World, Calls Tryz.prog 152 #[.int .i64 6] W fun e w' => e = .returned (.int .i64 (-1)) ∧ w' = W := fun W => textMost_any 6
  have S : ∀ W : World, Calls Tryz.prog 153 #[.int .i64 6] W fun e w' => e = .returned (.int .i64 0) ∧ w' = W := fun W => textLeast_any 6
  have M : ∀ W : World, Calls Tryz.prog 154 #[.int .i64 6] W fun e w' => e = .returned (.bool true) ∧ w' = W := fun W => hasNum_any 6
  have N := hid N
  have L := hid L
  have S := hid S
  have M := hid M
  go_enter Tryz.func114, Tryz.ntmps114
  go_wp2_with fail
  refine (N.out _).mono ?_
  rintro e w1 ⟨rfl, hw⟩
  have T := hid (Bx.first w 6 nm tx n m)
  have T : Hid (Bx w w1 6 nm tx n m) := hid (by rw [hw]; exact T.out)
  clear hw
  have o0 : w1.cell? ⟨w.heap.size, 0, none⟩ = some (.int .i64 6) := by rw [cell_at T.out.op]; rfl
  have o1 : w1.cell? ⟨w.heap.size, 1, none⟩ = some (.string nm) := by rw [cell_at T.out.op]; rfl
  have o2 : w1.cell? ⟨w.heap.size, 2, none⟩ = some (.string tx) := by rw [cell_at T.out.op]; rfl
  have o3 : w1.cell? ⟨w.heap.size, 3, none⟩ = some (.int .i64 n) := by rw [cell_at T.out.op]; rfl
  have o4 : w1.cell? ⟨w.heap.size, 4, none⟩ = some (.int .i64 m) := by rw [cell_at T.out.op]; rfl
  by_cases s1 : (nm.size : Int) < 1
  · have es1 : decide ((nm.size : Int) < 1) = true := by simp; omega
    go_wp2
    go_ret
    have Z : chkR 1 16 0 0 0 1099511627776 1 8 nm.size tx.size n m = 51 := by
      revert s1
      generalize nm.size = s
      generalize tx.size = t
      intro s1
      simp [chkR, wr, ex, hs, hl] <;> omega
    exact ⟨by rw [Z]; rfl, T.out.below⟩
  have es1 : decide ((nm.size : Int) < 1) = false := by simp; omega
  by_cases s2 : (16 : Int) < (nm.size : Int)
  · have es2 : decide ((16 : Int) < (nm.size : Int)) = true := by simp; omega
    go_wp2
    go_ret
    have Z : chkR 1 16 0 0 0 1099511627776 1 8 nm.size tx.size n m = 51 := by
      revert s1 s2
      generalize nm.size = s
      generalize tx.size = t
      intro s1 s2
      simp [chkR, wr, ex, hs, hl] <;> omega
    exact ⟨by rw [Z]; rfl, T.out.below⟩
  have es2 : decide ((16 : Int) < (nm.size : Int)) = false := by simp; omega
  go_wp2
  go_quiet (first | (go_at_call 152; exact Calls.quiet_of_same (L.out _)))
  have T := hid (T.out.drewN nq)
  clear o0 o1 o2 o3 o4
  generalize w1.drewN nq = w2 at T ⊢
  have o0 : w2.cell? ⟨w.heap.size, 0, none⟩ = some (.int .i64 6) := by rw [cell_at T.out.op]; rfl
  have o1 : w2.cell? ⟨w.heap.size, 1, none⟩ = some (.string nm) := by rw [cell_at T.out.op]; rfl
  have o2 : w2.cell? ⟨w.heap.size, 2, none⟩ = some (.string tx) := by rw [cell_at T.out.op]; rfl
  have o3 : w2.cell? ⟨w.heap.size, 3, none⟩ = some (.int .i64 n) := by rw [cell_at T.out.op]; rfl
  have o4 : w2.cell? ⟨w.heap.size, 4, none⟩ = some (.int .i64 m) := by rw [cell_at T.out.op]; rfl
  go_wp2_with fail
  refine (M.out _).mono ?_
  rintro e w3 ⟨rfl, rfl⟩
  by_cases n1 : n < 0
  · have en1 : decide (n < 0) = true := by simp; omega
    go_wp2
    go_ret
    have Z : chkR 1 16 0 0 0 1099511627776 1 8 nm.size tx.size n m = 53 := by
      revert s1 s2 n1
      generalize nm.size = s
      generalize tx.size = t
      intro s1 s2 n1
      simp [chkR, wr, ex, hs, hl] <;> omega
    exact ⟨by rw [Z]; rfl, T.out.below⟩
  have en1 : decide (n < 0) = false := by simp; omega
  by_cases n2 : (1099511627776 : Int) < n
  · have en2 : decide ((1099511627776 : Int) < n) = true := by simp; omega
    go_wp2
    go_ret
    have Z : chkR 1 16 0 0 0 1099511627776 1 8 nm.size tx.size n m = 53 := by
      revert s1 s2 n1 n2
      generalize nm.size = s
      generalize tx.size = t
      intro s1 s2 n1 n2
      simp [chkR, wr, ex, hs, hl] <;> omega
    exact ⟨by rw [Z]; rfl, T.out.below⟩
  have en2 : decide ((1099511627776 : Int) < n) = false := by simp; omega
  by_cases m1 : m < 1
  · have em1 : decide (m < 1) = true := by simp; omega
    go_wp2
    go_ret
    have Z : chkR 1 16 0 0 0 1099511627776 1 8 nm.size tx.size n m = 54 := by
      revert s1 s2 n1 n2 m1
      generalize nm.size = s
      generalize tx.size = t
      intro s1 s2 n1 n2 m1
      simp [chkR, wr, ex, hs, hl] <;> omega
    exact ⟨by rw [Z]; rfl, T.out.below⟩
  have em1 : decide (m < 1) = false := by simp; omega
  by_cases m2 : (8 : Int) < m
  · have em2 : decide ((8 : Int) < m) = true := by simp; omega
    go_wp2
    go_ret
    have Z : chkR 1 16 0 0 0 1099511627776 1 8 nm.size tx.size n m = 54 := by
      revert s1 s2 n1 n2 m1 m2
      generalize nm.size = s
      generalize tx.size = t
      intro s1 s2 n1 n2 m1 m2
      simp [chkR, wr, ex, hs, hl] <;> omega
    exact ⟨by rw [Z]; rfl, T.out.below⟩
  have em2 : decide ((8 : Int) < m) = false := by simp; omega
  go_wp2_with fail
  refine (N.out _).mono ?_
  rintro e w4 ⟨rfl, rfl⟩
  go_wp2_with fail
  refine (L.out _).mono ?_
  rintro e w5 ⟨rfl, rfl⟩
  by_cases x2 : tx.size = 0
  case neg =>
    have qtx := nonempty tx x2
    go_wp2
    go_ret
    have Z : chkR 1 16 0 0 0 1099511627776 1 8 nm.size tx.size n m = 55 := by
      revert s1 s2 n1 n2 m1 m2 x2
      generalize nm.size = s
      generalize tx.size = t
      intro s1 s2 n1 n2 m1 m2 x2
      simp [chkR, wr, ex, hs, hl] <;> omega
    exact ⟨by rw [Z]; rfl, T.out.below⟩
  have qtx := isempty tx x2
  go_wp2_with fail
  refine (M.out _).mono ?_
  rintro e w6 ⟨rfl, rfl⟩
  go_wp2
  go_ret
  have Z : chkR 1 16 0 0 0 1099511627776 1 8 nm.size tx.size n m = 0 := by
    revert s1 s2 n1 n2 m1 m2 x2
    generalize nm.size = s
    generalize tx.size = t
    intro s1 s2 n1 n2 m1 m2 x2
    simp [chkR, wr, ex, hs, hl] <;> omega
  exact ⟨by rw [Z]; rfl, T.out.below⟩

set_option maxHeartbeats 3200000 in
set_option maxRecDepth 1000000 in
theorem rc7 {w : World} (nm tx : ByteArray) (n m : Int) : Calls Tryz.prog 114 #[opV 7 nm tx n m] w fun e w' => e = .returned (.int .i64 (chkR 1 16 0 0 0 0 0 0 nm.size tx.size n m)) ∧ Below w.heap.size w w' := by
  have N : ∀ W : World, Calls Tryz.prog 151 #[.int .i64 7] W fun e w' => e = .returned (.bool true) ∧ w' = W := fun W => hasName_any 7
  have L : ∀ W : World, Calls Tryz.prog 152 #[.int .i64 7] W fun e w' => e = .returned (.int .i64 (-1)) ∧ w' = W := fun W => textMost_any 7
  have S : ∀ W : World, Calls Tryz.prog 153 #[.int .i64 7] W fun e w' => e = .returned (.int .i64 0) ∧ w' = W := fun W => textLeast_any 7
  have M : ∀ W : World, Calls Tryz.prog 154 #[.int .i64 7] W fun e w' => e = .returned (.bool false) ∧ w' = W := fun W => hasNum_any 7
  have N := hid N
  have L := hid L
  have S := hid S
  have M := hid M
  go_enter Tryz.func114, Tryz.ntmps114
  go_wp2_with fail
  refine (N.out _).mono ?_
  rintro e w1 ⟨rfl, hw⟩
  have T := hid (Bx.first w 7 nm tx n m)
  have T : Hid (Bx w w1 7 nm tx n m) := hid (by rw [hw]; exact T.out)
  clear hw
  have o0 : w1.cell? ⟨w.heap.size, 0, none⟩ = some (.int .i64 7) := by rw [cell_at T.out.op]; rfl
  have o1 : w1.cell? ⟨w.heap.size, 1, none⟩ = some (.string nm) := by rw [cell_at T.out.op]; rfl
  have o2 : w1.cell? ⟨w.heap.size, 2, none⟩ = some (.string tx) := by rw [cell_at T.out.op]; rfl
  have o3 : w1.cell? ⟨w.heap.size, 3, none⟩ = some (.int .i64 n) := by rw [cell_at T.out.op]; rfl
  have o4 : w1.cell? ⟨w.heap.size, 4, none⟩ = some (.int .i64 m) := by rw [cell_at T.out.op]; rfl
  by_cases s1 : (nm.size : Int) < 1
  · have es1 : decide ((nm.size : Int) < 1) = true := by simp; omega
    go_wp2
    go_ret
    have Z : chkR 1 16 0 0 0 0 0 0 nm.size tx.size n m = 51 := by
      revert s1
      generalize nm.size = s
      generalize tx.size = t
      intro s1
      simp [chkR, wr, ex, hs, hl] <;> omega
    exact ⟨by rw [Z]; rfl, T.out.below⟩
  have es1 : decide ((nm.size : Int) < 1) = false := by simp; omega
  by_cases s2 : (16 : Int) < (nm.size : Int)
  · have es2 : decide ((16 : Int) < (nm.size : Int)) = true := by simp; omega
    go_wp2
    go_ret
    have Z : chkR 1 16 0 0 0 0 0 0 nm.size tx.size n m = 51 := by
      revert s1 s2
      generalize nm.size = s
      generalize tx.size = t
      intro s1 s2
      simp [chkR, wr, ex, hs, hl] <;> omega
    exact ⟨by rw [Z]; rfl, T.out.below⟩
  have es2 : decide ((16 : Int) < (nm.size : Int)) = false := by simp; omega
  go_wp2
  go_quiet (first | (go_at_call 152; exact Calls.quiet_of_same (L.out _)))
  have T := hid (T.out.drewN nq)
  clear o0 o1 o2 o3 o4
  generalize w1.drewN nq = w2 at T ⊢
  have o0 : w2.cell? ⟨w.heap.size, 0, none⟩ = some (.int .i64 7) := by rw [cell_at T.out.op]; rfl
  have o1 : w2.cell? ⟨w.heap.size, 1, none⟩ = some (.string nm) := by rw [cell_at T.out.op]; rfl
  have o2 : w2.cell? ⟨w.heap.size, 2, none⟩ = some (.string tx) := by rw [cell_at T.out.op]; rfl
  have o3 : w2.cell? ⟨w.heap.size, 3, none⟩ = some (.int .i64 n) := by rw [cell_at T.out.op]; rfl
  have o4 : w2.cell? ⟨w.heap.size, 4, none⟩ = some (.int .i64 m) := by rw [cell_at T.out.op]; rfl
  go_wp2_with fail
  refine (M.out _).mono ?_
  rintro e w3 ⟨rfl, rfl⟩
  go_wp2_with fail
  refine (N.out _).mono ?_
  rintro e w4 ⟨rfl, rfl⟩
  go_wp2_with fail
  refine (L.out _).mono ?_
  rintro e w5 ⟨rfl, rfl⟩
  by_cases x2 : tx.size = 0
  case neg =>
    have qtx := nonempty tx x2
    go_wp2
    go_ret
    have Z : chkR 1 16 0 0 0 0 0 0 nm.size tx.size n m = 55 := by
      revert s1 s2 x2
      generalize nm.size = s
      generalize tx.size = t
      intro s1 s2 x2
      simp [chkR, wr, ex, hs, hl] <;> omega
    exact ⟨by rw [Z]; rfl, T.out.below⟩
  have qtx := isempty tx x2
  go_wp2_with fail
  refine (M.out _).mono ?_
  rintro e w6 ⟨rfl, rfl⟩
  by_cases x3 : n = 0
  case neg =>
    have qn : (n != 0) = true := by simpa using x3
    go_wp2
    go_ret
    have Z : chkR 1 16 0 0 0 0 0 0 nm.size tx.size n m = 55 := by
      revert s1 s2 x2 x3
      generalize nm.size = s
      generalize tx.size = t
      intro s1 s2 x2 x3
      simp [chkR, wr, ex, hs, hl] <;> omega
    exact ⟨by rw [Z]; rfl, T.out.below⟩
  have qn : (n != 0) = false := by simpa using x3
  have xx3 := hid x3
  clear x3
  by_cases x4 : m = 0
  case neg =>
    have qm : (m != 0) = true := by simpa using x4
    go_wp2
    go_ret
    have Z : chkR 1 16 0 0 0 0 0 0 nm.size tx.size n m = 55 := by
      revert s1 s2 x2 xx3 x4
      generalize nm.size = s
      generalize tx.size = t
      intro s1 s2 x2 xx3 x4
      have xx3 := xx3.out
      simp [chkR, wr, ex, hs, hl] <;> omega
    exact ⟨by rw [Z]; rfl, T.out.below⟩
  have qm : (m != 0) = false := by simpa using x4
  have xx4 := hid x4
  clear x4
  go_wp2
  go_ret
  have Z : chkR 1 16 0 0 0 0 0 0 nm.size tx.size n m = 0 := by
    revert s1 s2 x2 xx3 xx4
    generalize nm.size = s
    generalize tx.size = t
    intro s1 s2 x2 xx3 xx4
    have xx3 := xx3.out
    have xx4 := xx4.out
    simp [chkR, wr, ex, hs, hl] <;> omega
  exact ⟨by rw [Z]; rfl, T.out.below⟩

set_option maxHeartbeats 3200000 in
set_option maxRecDepth 1000000 in
theorem rc8 {w : World} (nm tx : ByteArray) (n m : Int) : Calls Tryz.prog 114 #[opV 8 nm tx n m] w fun e w' => e = .returned (.int .i64 (chkR 0 0 0 0 0 0 0 0 nm.size tx.size n m)) ∧ Below w.heap.size w w' := by
  have N : ∀ W : World, Calls Tryz.prog 151 #[.int .i64 8] W fun e w' => e = .returned (.bool false) ∧ w' = W := fun W => hasName_any 8
  have L : ∀ W : World, Calls Tryz.prog 152 #[.int .i64 8] W fun e w' => e = .returned (.int .i64 (-1)) ∧ w' = W := fun W => textMost_any 8
  have S : ∀ W : World, Calls Tryz.prog 153 #[.int .i64 8] W fun e w' => e = .returned (.int .i64 0) ∧ w' = W := fun W => textLeast_any 8
  have M : ∀ W : World, Calls Tryz.prog 154 #[.int .i64 8] W fun e w' => e = .returned (.bool false) ∧ w' = W := fun W => hasNum_any 8
  have N := hid N
  have L := hid L
  have S := hid S
  have M := hid M
  go_enter Tryz.func114, Tryz.ntmps114
  go_wp2_with fail
  refine (N.out _).mono ?_
  rintro e w1 ⟨rfl, hw⟩
  have T := hid (Bx.first w 8 nm tx n m)
  have T : Hid (Bx w w1 8 nm tx n m) := hid (by rw [hw]; exact T.out)
  clear hw
  have o0 : w1.cell? ⟨w.heap.size, 0, none⟩ = some (.int .i64 8) := by rw [cell_at T.out.op]; rfl
  have o1 : w1.cell? ⟨w.heap.size, 1, none⟩ = some (.string nm) := by rw [cell_at T.out.op]; rfl
  have o2 : w1.cell? ⟨w.heap.size, 2, none⟩ = some (.string tx) := by rw [cell_at T.out.op]; rfl
  have o3 : w1.cell? ⟨w.heap.size, 3, none⟩ = some (.int .i64 n) := by rw [cell_at T.out.op]; rfl
  have o4 : w1.cell? ⟨w.heap.size, 4, none⟩ = some (.int .i64 m) := by rw [cell_at T.out.op]; rfl
  go_wp2
  go_quiet (first | (go_at_call 152; exact Calls.quiet_of_same (L.out _)))
  have T := hid (T.out.drewN nq)
  clear o0 o1 o2 o3 o4
  generalize w1.drewN nq = w2 at T ⊢
  have o0 : w2.cell? ⟨w.heap.size, 0, none⟩ = some (.int .i64 8) := by rw [cell_at T.out.op]; rfl
  have o1 : w2.cell? ⟨w.heap.size, 1, none⟩ = some (.string nm) := by rw [cell_at T.out.op]; rfl
  have o2 : w2.cell? ⟨w.heap.size, 2, none⟩ = some (.string tx) := by rw [cell_at T.out.op]; rfl
  have o3 : w2.cell? ⟨w.heap.size, 3, none⟩ = some (.int .i64 n) := by rw [cell_at T.out.op]; rfl
  have o4 : w2.cell? ⟨w.heap.size, 4, none⟩ = some (.int .i64 m) := by rw [cell_at T.out.op]; rfl
  go_wp2_with fail
  refine (M.out _).mono ?_
  rintro e w3 ⟨rfl, rfl⟩
  go_wp2_with fail
  refine (N.out _).mono ?_
  rintro e w4 ⟨rfl, rfl⟩
  by_cases x1 : nm.size = 0
  case neg =>
    have qnm := nonempty nm x1
    go_wp2
    go_ret
    have Z : chkR 0 0 0 0 0 0 0 0 nm.size tx.size n m = 55 := by
      revert x1
      generalize nm.size = s
      generalize tx.size = t
      intro x1
      simp [chkR, wr, ex, hs, hl] <;> omega
    exact ⟨by rw [Z]; rfl, T.out.below⟩
  have qnm := isempty nm x1
  go_wp2_with fail
  refine (L.out _).mono ?_
  rintro e w5 ⟨rfl, rfl⟩
  by_cases x2 : tx.size = 0
  case neg =>
    have qtx := nonempty tx x2
    go_wp2
    go_ret
    have Z : chkR 0 0 0 0 0 0 0 0 nm.size tx.size n m = 55 := by
      revert x1 x2
      generalize nm.size = s
      generalize tx.size = t
      intro x1 x2
      simp [chkR, wr, ex, hs, hl] <;> omega
    exact ⟨by rw [Z]; rfl, T.out.below⟩
  have qtx := isempty tx x2
  go_wp2_with fail
  refine (M.out _).mono ?_
  rintro e w6 ⟨rfl, rfl⟩
  by_cases x3 : n = 0
  case neg =>
    have qn : (n != 0) = true := by simpa using x3
    go_wp2
    go_ret
    have Z : chkR 0 0 0 0 0 0 0 0 nm.size tx.size n m = 55 := by
      revert x1 x2 x3
      generalize nm.size = s
      generalize tx.size = t
      intro x1 x2 x3
      simp [chkR, wr, ex, hs, hl] <;> omega
    exact ⟨by rw [Z]; rfl, T.out.below⟩
  have qn : (n != 0) = false := by simpa using x3
  have xx3 := hid x3
  clear x3
  by_cases x4 : m = 0
  case neg =>
    have qm : (m != 0) = true := by simpa using x4
    go_wp2
    go_ret
    have Z : chkR 0 0 0 0 0 0 0 0 nm.size tx.size n m = 55 := by
      revert x1 x2 xx3 x4
      generalize nm.size = s
      generalize tx.size = t
      intro x1 x2 xx3 x4
      have xx3 := xx3.out
      simp [chkR, wr, ex, hs, hl] <;> omega
    exact ⟨by rw [Z]; rfl, T.out.below⟩
  have qm : (m != 0) = false := by simpa using x4
  have xx4 := hid x4
  clear x4
  go_wp2
  go_ret
  have Z : chkR 0 0 0 0 0 0 0 0 nm.size tx.size n m = 0 := by
    revert x1 x2 xx3 xx4
    generalize nm.size = s
    generalize tx.size = t
    intro x1 x2 xx3 xx4
    have xx3 := xx3.out
    have xx4 := xx4.out
    simp [chkR, wr, ex, hs, hl] <;> omega
  exact ⟨by rw [Z]; rfl, T.out.below⟩
end Go.Proofs.YtdhkdniddjnigaaGreatDoor

import Derived.Test.YtblojlaifnmimaaGreatDoorSc
import Derived.Test.YtblojlaifnmimaaGreatDoorSLay
import Derived.Test.YtblojlaifnmimaaGreatDoorSLc
namespace Go.Proofs.YtblojlaifnmimaaGreatDoor
open Go.RowKit
set_option linter.unusedVariables false

/-- The table of the steps' forms. -/
def Sf (w : World) : Prop := 0 < w.heap.size ∧ ∀ k, k < 14 → w.cell? ⟨0, k * 2, none⟩ = some (.string ⟨(snN k).toArray⟩) ∧ w.cell? ⟨0, k * 2 + 1, none⟩ = some (.string ⟨(slN k).toArray⟩)
theorem Sf.later {w w' : World} (h : Sf w) (hb : Below w.heap.size w w') : Sf w' := ⟨Nat.lt_of_lt_of_le h.1 hb.size, fun k hk => ⟨cell_under hb h.1 (h.2 k hk).1, cell_under hb h.1 (h.2 k hk).2⟩⟩
/-- The library's greatest length is some number. -/
def Mx (w : World) : Prop := 3 < w.heap.size ∧ ∃ m : Int, w.cell? ⟨3, 0, none⟩ = some (.int .i64 m)
theorem Mx.later {w w' : World} (h : Mx w) (hb : Below w.heap.size w w') : Mx w' := ⟨Nat.lt_of_lt_of_le h.1 hb.size, h.2.imp fun m hm => cell_under hb h.1 hm⟩
/-- What the variables hold. -/
structure En (w : World) : Prop where
  v : Vars w
  t : Tab w
  f : Wf w
  s : Sf w
  m : Mx w
theorem En.later {w w' : World} (h : En w) (hb : Below w.heap.size w w') : En w' := ⟨h.v.later hb, h.t.below hb, h.f.later hb, h.s.later hb, h.m.later hb⟩

theorem trim_any {l : List UInt8} {w : World} : Calls Tryz.prog 34 #[.string ⟨l.toArray⟩, .string ⟨#[32, 9]⟩] w fun e w' => e = .returned (.string ⟨(Lib.trimLeftS l [32, 9]).toArray⟩) ∧ Below w.heap.size w w' :=
  Any.strings_TrimLeft_laid Tryz.lays161 (by kernel_rfl) ⟨l.toArray⟩ ⟨#[32, 9]⟩ w (by decide) (ascii_of_all (by decide))
theorem own_big {W : World} {cs : List Comp} (A : All cs W) (m : Ws) (hm : m.length ≤ 1000000) : All (ownC 9 (.slice (some ⟨W.heap.size, 0, none⟩) m.length m.length) (txW m) :: cs) (W.alloc (.cells (txW m).toArray 9)) := by
  refine A.addOwn (ba W _) ⟨by simp, Or.inr ⟨W.heap.size, m.length, (txW m).toArray, by rw [txW_length], Nat.le_refl _, heap_alloc_new W _, by rw [txW_length]; omega, by unfold maxLen; omega, by simp [txW_length], by simp⟩⟩
theorem splitB_txW (l : List UInt8) : (Lib.splitB ⟨#[10]⟩ 0 (Lib.countB ⟨l.toArray⟩ ⟨#[10]⟩) ⟨l.toArray⟩).map Value.string = txW (linesW [] l) := by
  rw [← lines_split l]
  have h := Lib.splitB_data ⟨#[10]⟩ 0 (Lib.countB ⟨l.toArray⟩ ⟨#[10]⟩) ⟨l.toArray⟩
  have hc : Lib.countB ⟨l.toArray⟩ ⟨#[10]⟩ = Lib.count l [10] := rfl
  rw [hc] at h ⊢
  have h2 : Lib.splitK [10] 0 (Lib.count l [10]) l = (Lib.splitB ⟨#[10]⟩ 0 (Lib.count l [10]) ⟨l.toArray⟩).map (·.data.toList) := h.symm
  rw [h2]
  unfold txW
  rw [List.map_map]
  rfl
theorem splitB_len (l : List UInt8) : Lib.countB ⟨l.toArray⟩ ⟨#[10]⟩ + 1 = (linesW [] l).length := by
  have := congrArg List.length (splitB_txW l)
  rw [List.length_map, txW_length, Lib.splitB_all ⟨#[10]⟩ (by decide) 0 _ _ rfl] at this
  exact this
/-- The library's Split at newlines. -/
theorem lsplit_any {l : List UInt8} {cs : List Comp} {w : World} (A : All cs w) (hm : Mx w) (hl : l.length ≤ 65536) :
    Calls Tryz.prog 15 #[.string ⟨l.toArray⟩, .string ⟨#[10]⟩] w fun e w' => ∃ ao c, e = .returned (.slice ao (linesW [] l).length c) ∧ All (ownC 9 (.slice ao (linesW [] l).length c) (txW (linesW [] l)) :: cs) w' := by
  obtain ⟨m, hmc⟩ := hm.2
  have hz : (⟨l.toArray⟩ : ByteArray).size = l.length := by simp [ByteArray.size]
  have h := Any.strings_Split { Tryz.laysM146 with } Tryz.laysM146.i9 ⟨l.toArray⟩ ⟨#[10]⟩ m w (by rw [hz]; omega) hmc (by decide)
  rw [splitB_len, splitB_txW] at h
  refine Calls.mono h ?_
  rintro e w' ⟨he, hw⟩
  subst hw
  exact ⟨_, _, he, own_big A _ (by have := lines_len l []; omega)⟩

set_option maxHeartbeats 800000 in
set_option maxRecDepth 1000000 in
theorem pass_any {l : List UInt8} {w : World} : Calls Tryz.prog 16 #[.string ⟨l.toArray⟩] w fun e w' => e = .returned (.bool (passW l)) ∧ Below w.heap.size w w' := by
  have C := hid (trim_any (l := l) (w := w))
  rw [pass_trim]
  cases ht : Lib.trimLeftS l [32, 9] with
  | nil =>
    rw [ht] at C
    clear ht
    generalize ByteArray.mk l.toArray = X at *
    go_enter Tryz.func16, Tryz.ntmps16
    go_wp2_with (go_at_call 34; refine C.out.mono ?_; rintro e w1 ⟨rfl, B1⟩; have BB := hid B1; clear B1)
    go_ret
    exact ⟨rfl, BB.out⟩
  | cons b r =>
    rw [ht] at C
    clear ht
    have hi : ∀ W, (Instr.index 9 (.string ⟨(b :: r).toArray⟩) (.int .i64 0)).run Tryz.prog W = .ok (.int .u8 (b.toNat : Int)) W := fun W => idx_at (l := b :: r) (k := 0) (by simp) W
    have hne : ((⟨(b :: r).toArray⟩ : ByteArray).toList == (⟨#[]⟩ : ByteArray).toList) = false := ba_ne (x := b :: r) (y := [])
    have hem : (⟨(b :: r).toArray⟩ : ByteArray).toList.isEmpty = false := by rw [Lib.toList_data]; rfl
    have hd : Hid (decide (b = 35) = decide ((b.toNat : Int) = 35)) := hid (by
      rw [Bool.eq_iff_iff]
      simp only [decide_eq_true_eq]
      constructor
      · intro h; subst h; rfl
      · intro h; exact u8_eq (by have : (35 : UInt8).toNat = 35 := rfl; omega))
    show Calls Tryz.prog 16 _ w fun e w' => e = .returned (.bool (decide (b = 35))) ∧ Below w.heap.size w w'
    rw [hd.out]
    clear hd
    generalize ByteArray.mk l.toArray = X at *
    generalize ByteArray.mk (b :: r).toArray = Y at *
    generalize (b.toNat : Int) = bi at *
    go_enter Tryz.func16, Tryz.ntmps16
    go_wp2_with (go_at_call 34; refine C.out.mono ?_; rintro e w1 ⟨rfl, B1⟩; have BB := hid B1; clear B1)
    go_ret
    exact ⟨rfl, BB.out⟩

/-- Where a letter's number lies. -/
def offS (c : Nat) : Nat := if c = 65 then 1 else if c = 75 then 2 else if c = 88 then 3 else 4
set_option maxRecDepth 1000000 in
theorem number_any {B c : Nat} {w : World} : Calls Tryz.prog 54 #[ptr B, .int .i32 (c : Int)] w fun e w' => e = .returned (.pointer (some ⟨B, offS c, none⟩)) ∧ w' = w := by
  unfold offS
  by_cases h1 : c = 65
  · subst h1
    go_enter Tryz.func54, Tryz.ntmps54
    go_wp2
    go_ret
    exact ⟨rfl, rfl⟩
  · by_cases h2 : c = 75
    · subst h2
      go_enter Tryz.func54, Tryz.ntmps54
      go_wp2
      go_ret
      exact ⟨rfl, rfl⟩
    · by_cases h3 : c = 88
      · subst h3
        go_enter Tryz.func54, Tryz.ntmps54
        go_wp2
        go_ret
        exact ⟨rfl, rfl⟩
      · have g1 : ¬ (c : Int) = 65 := by omega
        have g2 : ¬ (c : Int) = 75 := by omega
        have g3 : ¬ (c : Int) = 88 := by omega
        rw [if_neg h1, if_neg h2, if_neg h3]
        go_enter Tryz.func54, Tryz.ntmps54
        go_wp2
        go_ret
        exact ⟨rfl, rfl⟩

/-- The number ahead. -/
def aheadW (ws : Ws) : Option Nat := match ws with
  | [] => none
  | x :: _ => numW x
def aheadA (ws : Ws) : Value := .tuple #[.int .i64 (((aheadW ws).getD 0 : Nat) : Int), .bool (aheadW ws).isSome]
set_option maxRecDepth 1000000 in
theorem ahead_any {v : Value} {l : Ws} {w : World} (V : Vars w) (h : Rt w v l) (hs : ∀ x ∈ l, x.length ≤ 140737488355328) :
    Calls Tryz.prog 97 #[v] w fun e w' => e = .returned (aheadA l) ∧ Below w.heap.size w w' := by
  obtain ⟨ao, c, rfl⟩ := h.form
  cases l with
  | nil =>
    go_enter Tryz.func97, Tryz.ntmps97
    go_wp2
    go_ret2
    exact ⟨rfl, Below.refl _ _⟩
  | cons x r =>
    obtain ⟨g, o, rfl, _, h1⟩ := h.at (j := 0) (by simp)
    have h1 : w.cell? ⟨g, o, none⟩ = some (.string ⟨x.toArray⟩) := h1
    have C := hid (Number_any (l := x) V (hs x (by simp)))
    unfold numA at C
    have e1 : aheadA (x :: r) = .tuple #[.int .i64 (((numW x).getD 0 : Nat) : Int), .bool (numW x).isSome] := rfl
    rw [e1]
    have n0 : (((r.length + 1 : Nat) : Int) == 0) = false := by simp; omega
    have n1 : ¬ ((r.length : Int) + 1 = 0) := by omega
    clear e1 h hs V
    rw [List.length_cons]
    generalize (numW x).getD 0 = Z at *
    generalize (numW x).isSome = YB at *
    generalize ByteArray.mk x.toArray = X at *
    generalize hn : r.length = n at *
    go_enter Tryz.func97, Tryz.ntmps97
    go_wp2_with (go_at_call 95; refine C.out.mono ?_; rintro e w1 ⟨rfl, B1⟩; have BB := hid B1; clear B1)
    go_ret2
    exact ⟨rfl, BB.out⟩
end Go.Proofs.YtblojlaifnmimaaGreatDoor

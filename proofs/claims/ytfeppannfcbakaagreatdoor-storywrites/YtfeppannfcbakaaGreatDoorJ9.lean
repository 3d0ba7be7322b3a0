import Derived.Test.YtfeppannfcbakaaGreatDoorJ8
import Derived.Test.YtfeppannfcbakaaGreatDoorJ4
import Derived.Deep.QuietTactic
import Derived.BigQuiet
namespace Go.Proofs.YtfeppannfcbakaaGreatDoor
open Go.RowKit Go.Lib
set_option linter.unusedVariables false

/-- An op's words. -/
def opW (k : Nat) (nm tx : List UInt8) (n m : Nat) : Ws := nmN k :: flds nm tx n m (ltN k)
/-- What the check tells. -/
def chkO (k : Int) (nm tx : List UInt8) (n m : Int) : Int := chkA k nm.length tx.length n m
def opA (k : Int) (nm tx : List UInt8) (n m : Int) : Ws := if chkO k nm tx n m ≠ 0 then [] else opW k.toNat nm tx n.toNat m.toNat
theorem wr_ok {a b n : Int} (h : wr a b n = false) (hx : ex b n = false) (ha : 0 ≤ a) : 0 ≤ n ∧ (n ≤ b ∨ n = 0) ∧ (¬ 0 < b → n = 0) ∧ (0 < b → a ≤ n) := by
  by_cases hb : 0 < b
  · have h1 : a ≤ n ∧ n ≤ b := by simpa [wr, hs, hl, hb] using h
    refine ⟨by omega, Or.inl h1.2, fun h => absurd hb h, fun _ => h1.1⟩
  · have h1 : n = 0 := by simpa [ex, hs, hb] using hx
    exact ⟨by omega, Or.inr h1, fun _ => h1, fun h => absurd h hb⟩
theorem chkR_zero {a0 a1 a2 a3 a4 a5 a6 a7 s t n m : Int} (h : chkR a0 a1 a2 a3 a4 a5 a6 a7 s t n m = 0) : wr a0 a1 s = false ∧ wr a2 a3 t = false ∧ wr a4 a5 n = false ∧ wr a6 a7 m = false ∧ ex a1 s = false ∧ ex a3 t = false ∧ ex a5 n = false ∧ ex a7 m = false := by
  unfold chkR at h
  repeat' (split at h; · simp at h)
  simp_all
/-- What holds of an op that the check lets pass. -/
theorem chkO_zero {k : Int} {nm tx : List UInt8} {n m : Int} (h : chkO k nm tx n m = 0) : 1 ≤ k ∧ k ≤ 8 ∧ 0 ≤ n ∧ n ≤ 1099511627776 ∧ 0 ≤ m ∧ m ≤ 1099511627776 ∧ nm.length ≤ 64 ∧ tx.length ≤ 64
    ∧ (78 ∉ ltN k.toNat → nm = []) ∧ (84 ∉ ltN k.toNat → tx = []) ∧ (75 ∉ ltN k.toNat → n = 0) ∧ (77 ∉ ltN k.toNat → m = 0) := by
  unfold chkO chkA at h
  by_cases hk : k < 1 ∨ 8 < k
  · rw [if_pos hk] at h; simp at h
  rw [if_neg hk] at h
  unfold chkT at h
  obtain ⟨h1, h2, h3, h4, h5, h6, h7, h8⟩ := chkR_zero h
  clear h
  generalize hs1 : (nm.length : Int) = s1 at *
  generalize hs2 : (tx.length : Int) = s2 at *
  have hnm : ∀ {l : List UInt8}, (l.length : Int) = 0 → l = [] := fun {l} h => List.eq_nil_of_length_eq_zero (by omega)
  obtain rfl | rfl | rfl | rfl | rfl | rfl | rfl | rfl : k = 1 ∨ k = 2 ∨ k = 3 ∨ k = 4 ∨ k = 5 ∨ k = 6 ∨ k = 7 ∨ k = 8 := by omega
  all_goals
    have q1 := wr_ok h1 h5 (by decide)
    have q2 := wr_ok h2 h6 (by decide)
    have q3 := wr_ok h3 h7 (by decide)
    have q4 := wr_ok h4 h8 (by decide)
    clear h1 h2 h3 h4 h5 h6 h7 h8 hk
    simp [formN] at q1 q2 q3 q4
    refine ⟨by omega, by omega, by omega, by omega, by omega, by omega, by omega, by omega, fun hx => ?_, fun hx => ?_, fun hx => ?_, fun hx => ?_⟩
    all_goals first | omega | exact absurd (by decide) hx | (exact hnm (by omega))

theorem chkO_any {k : Int} {nm tx : List UInt8} {n m : Int} {w : World} (hT : Tab w) : Calls Tryz.prog 118 #[opV k ⟨nm.toArray⟩ ⟨tx.toArray⟩ n m] w fun e w' => e = .returned (.int .i64 (chkO k nm tx n m)) ∧ Below w.heap.size w w' := by
  have := check_any hT k ⟨nm.toArray⟩ ⟨tx.toArray⟩ n m
  have e1 : (⟨nm.toArray⟩ : ByteArray).size = nm.length := by simp [ByteArray.size]
  have e2 : (⟨tx.toArray⟩ : ByteArray).size = tx.length := by simp [ByteArray.size]
  rw [e1, e2] at this
  exact this

theorem blk5 {B : Nat} {a b c d e : Value} {t : TypeId} {cs : List Comp} {w : World} (h : All cs w) (hm : blkC B [a, b, c, d, e] t ∈ cs) : w.cell? ⟨B, 0, none⟩ = some a ∧ w.cell? ⟨B, 1, none⟩ = some b ∧ w.cell? ⟨B, 2, none⟩ = some c ∧ w.cell? ⟨B, 3, none⟩ = some d ∧ w.cell? ⟨B, 4, none⟩ = some e ∧ B < w.heap.size := by
  have hb := (h.mem hm).2.1
  exact ⟨by rw [cell_at hb]; rfl, by rw [cell_at hb]; rfl, by rw [cell_at hb]; rfl, by rw [cell_at hb]; rfl, by rw [cell_at hb]; rfl, (h.mem hm).2.2 B (by simp [blkC])⟩
theorem blk2 {B : Nat} {a b : Value} {t : TypeId} {cs : List Comp} {w : World} (h : All cs w) (hm : blkC B [a, b] t ∈ cs) : w.cell? ⟨B, 0, none⟩ = some a ∧ w.cell? ⟨B, 1, none⟩ = some b ∧ B < w.heap.size := by
  have hb := (h.mem hm).2.1
  exact ⟨by rw [cell_at hb]; rfl, by rw [cell_at hb]; rfl, (h.mem hm).2.2 B (by simp [blkC])⟩

set_option maxHeartbeats 1600000 in
set_option maxRecDepth 1000000 in
theorem Op_any {k n m : Int} {nm tx : List UInt8} {cs : List Comp} {w : World} (A : All cs w) (hV : ∀ W, All cs W → Vars W) (hT : ∀ W, All cs W → Tab W) (hW : ∀ W, All cs W → Wf W) :
    Calls Tryz.prog 88 #[opV k ⟨nm.toArray⟩ ⟨tx.toArray⟩ n m] w (WRPost (opA k nm tx n m) (chkO k nm tx n m) cs) := by
  have A0 := hid (A.addBlk [.int .i64 k, .string ⟨nm.toArray⟩, .string ⟨tx.toArray⟩, .int .i64 n, .int .i64 m] 24)
  have CK := hid (chkO_any (k := k) (nm := nm) (tx := tx) (n := n) (m := m) (hT _ A0.out.tail))
  by_cases hX : chkO k nm tx n m ≠ 0
  · have e1 : opA k nm tx n m = [] := by unfold opA; rw [if_pos hX]
    rw [e1]
    have hX' : (chkO k nm tx n m != 0) = true := by simpa using hX
    clear e1 hX hT hV hW A
    generalize chkO k nm tx n m = XX at *
    generalize ByteArray.mk nm.toArray = X1 at *
    generalize ByteArray.mk tx.toArray = X2 at *
    go_enter Tryz.func88, Tryz.ntmps88
    go_wp2_with (go_at_call 118; refine CK.out.mono ?_; rintro e w1 ⟨rfl, B1⟩; have A1 := hid (A0.out.later B1); clear B1)
    go_ret2
    exact ⟨_, rfl, All.addNil A1.out.tail⟩
  have hX0 : chkO k nm tx n m = 0 := Classical.byContradiction hX
  have e1 : opA k nm tx n m = opW k.toNat nm tx n.toNat m.toNat := by unfold opA; rw [if_neg hX]
  obtain ⟨hk1, hk8, hn0, hn1, hm0, hm1, _, _, _⟩ := chkO_zero hX0
  rw [e1]
  rw [hX0] at CK ⊢
  clear hX hX0 e1 A
  obtain ⟨k, rfl⟩ := Int.eq_ofNat_of_zero_le (show 0 ≤ k by omega)
  obtain ⟨n, rfl⟩ := Int.eq_ofNat_of_zero_le hn0
  obtain ⟨m, rfl⟩ := Int.eq_ofNat_of_zero_le hm0
  rw [Int.toNat_natCast, Int.toNat_natCast, Int.toNat_natCast]
  have hk9 : (k : Int) < 9 := by omega
  have TB : Hid (∀ W, All cs W → W.cell? ⟨2, k * 2, none⟩ = some (.string ⟨(nmN k).toArray⟩) ∧ W.cell? ⟨2, k * 2 + 1, none⟩ = some (.string ⟨(ltN k).toArray⟩)) := hid (fun W h => (hW W h).2 k (by omega))
  have F19 : Hid (∀ (c : Nat) ds W, All ds W → (∀ W, All ds W → All cs W) → (c = 78 ∨ c = 84 ∨ c = 75 ∨ c = 77) → Calls Tryz.prog 119 #[opV (k : Int) ⟨nm.toArray⟩ ⟨tx.toArray⟩ (n : Int) (m : Int), .int .i32 (c : Int)] W fun e w' => e = .returned (.string ⟨(fieldW nm tx n m c).toArray⟩) ∧ All ds w') := hid (fun c ds W h hcs hc => (field_any (hV W (hcs W h)) (by omega) (by omega) hc).mono fun e w' ⟨he, hb⟩ => ⟨he, h.later hb⟩)
  have LT : Hid (∀ p, p < (ltN k).length → ((ltN k).getD p 0).toNat = 78 ∨ ((ltN k).getD p 0).toNat = 84 ∨ ((ltN k).getD p 0).toNat = 75 ∨ ((ltN k).getD p 0).toNat = 77) := hid (fun p hp => ltN_in (by
    have : (ltN k).getD p 0 = (ltN k)[p] := by simp [List.getD, hp]
    rw [this]; exact List.getElem_mem hp))
  have L3 := hid (ltN_len k)
  have SN : Hid (∀ p, p < (ltN k).length → flds nm tx n m ((ltN k).take (p + 1)) = flds nm tx n m ((ltN k).take p) ++ [fieldW nm tx n m ((ltN k).getD p 0).toNat]) := hid (fun p hp => flds_snoc nm tx n m hp)
  have FL : Hid (∀ p, (flds nm tx n m ((ltN k).take p)).length ≤ p) := hid (fun p => by simp [flds]; omega)
  have EW : Hid (opW k nm tx n m = nmN k :: flds nm tx n m ((ltN k).take (ltN k).length)) := hid (by rw [List.take_length]; rfl)
  generalize opW k nm tx n m = OW at *
  clear hT hV hW hn0 hm0 hk8
  generalize hlt : ltN k = lt at *
  clear hlt
  generalize hXl : ByteArray.mk lt.toArray = XL at *
  have HXL := hid hXl
  clear hXl
  generalize ByteArray.mk nm.toArray = X1 at *
  generalize ByteArray.mk tx.toArray = X2 at *
  generalize hXn : ByteArray.mk (nmN k).toArray = XN at *
  have HXN := hid hXn
  clear hXn
  go_enter Tryz.func88, Tryz.ntmps88
  go_wp2_with (go_at_call 118; refine CK.out.mono ?_; rintro e w1 ⟨rfl, B1⟩; have A1 := hid (A0.out.later B1); clear B1; refine Hid.out ?_)
  refine hid ?_
  clear CK A0
  have hb := A1.out.1.2.1
  have o0 : w1.cell? ⟨w.heap.size, 0, none⟩ = some (.int .i64 (k : Int)) := by rw [cell_at hb]; rfl
  clear hb
  obtain ⟨t0, t1⟩ := TB.out _ A1.out.tail
  have A2 := hid (A1.out.addBlk [.string XN, .string XL] 171)
  have esz : (w1.alloc (.cells #[.string XN, .string XL] 171)).heap.size = w1.heap.size + 1 := by simp
  have A3 := A2.out.addIt XL
  have B3 : Hid (All (ownC 9 (.slice none 0 0) (txW (flds nm tx n m (lt.take 0))) :: itC (w1.heap.size + 1) XL 0 :: blkC w1.heap.size [.string XN, .string XL] 171 :: blkC w.heap.size [.int .i64 (k : Int), .string X1, .string X2, .int .i64 (n : Int), .int .i64 (m : Int)] 24 :: cs) ((w1.alloc (.cells #[.string XN, .string XL] 171)).iter XL 0)) := hid (by rw [← esz]; exact All.addNil A3)
  clear A2 A3 esz A1
  go_wp2_with fail
  generalize hI : w1.heap.size + 1 = IT at *
  clear hI
  go_loopw [6, 8] (fun av u wr => ∃ p, p ≤ lt.length ∧ Hid (All (ownC 9 av (txW (flds nm tx n m (lt.take p))) :: itC IT XL p :: blkC w1.heap.size [.string XN, .string XL] 171 :: blkC w.heap.size [.int .i64 (k : Int), .string X1, .string X2, .int .i64 (n : Int), .int .i64 (m : Int)] 24 :: cs) wr)) (fun av u wr => lt.length - wr.iterPos IT)
  case atStart => exact ⟨0, Nat.zero_le _, B3⟩
  case round =>
    clear B3 o0 t0 t1 TB
    obtain ⟨p, hp, HA⟩ := hrel
    by_cases hlt : p < lt.length
    · have hn := next_at (lt := lt) (p := p) (g := IT) (w := wr) (by rw [HXL.out]; exact HA.out.swap) hlt (by have := LT.out p hlt; omega)
      rw [HXL.out] at hn
      have A4 := hid ((HA.out.swap.setIt (p + 1)).swap)
      have m0 : Hid (wr.iterPos IT = p) := hid (iterPos_of HA.out.tail.1.2.1)
      have hc := hid (LT.out p hlt)
      have sn := hid (SN.out p hlt)
      clear HA
      generalize wr.iterAt IT XL (p + 1) = w2 at hn A4
      obtain ⟨r0, r1, r2, r3, r4, _⟩ := blk5 A4.out (.tail _ (.tail _ (.tail _ (.head _))))
      have Q := hid (F19.out _ _ _ A4.out (fun W h => h.tail.tail.tail.tail) hc.out)
      clear hc LT SN F19
      generalize hFW : fieldW nm tx n m (lt.getD p 0).toNat = FW at Q sn
      clear hFW
      generalize (lt.getD p 0).toNat = C at hn Q
      generalize hY : ByteArray.mk FW.toArray = Y at Q
      have HY := hid hY
      clear hY
      go_wp2_with (go_at_call 119; refine Q.out.mono ?_; rintro e w3 ⟨rfl, A5⟩; have B5 := hid A5; clear A5; refine Hid.out ?_)
      refine hid ?_
      clear Q A4 hn r0 r1 r2 r3 r4
      obtain ⟨ao6, c6, w6, hr6, A6⟩ := app_txt B5.out FW (by have := FL.out p; have := L3.out; omega)
      rw [HY.out] at hr6
      have R6 := hid hr6
      rw [← sn.out] at A6
      have B6 := hid A6
      have m6 : Hid (w6.iterPos IT = p + 1) := hid (iterPos_of A6.tail.1.2.1)
      clear hr6 A6 B5
      go_wp2_with (at_builtin; refine wpList_append_run rfl _ _ 27 rfl _ _ _ _ rfl rfl R6.out ?_)
      go_roundw
      case rel => exact ⟨p + 1, hlt, B6⟩
      case measure => rw [m0.out, m6.out]; omega
    · have hn := next_end (lt := lt) (p := p) (g := IT) (w := wr) (by rw [HXL.out]; exact HA.out.swap) hlt
      have ep : p = lt.length := by omega
      subst ep
      obtain ⟨r0, r1, _⟩ := blk2 HA.out (.tail _ (.tail _ (.head _)))
      have Q := row2 (x := nmN k) HA.out (rt_own HA.out) (by have := FL.out lt.length; have := L3.out; omega)
      rw [HXN.out, ← EW.out] at Q
      have QQ := hid Q
      clear Q HA
      go_wp2_with (go_at_call 120; refine QQ.out.mono ?_; rintro e w5 ⟨v5, rfl, A5⟩; have B5 := hid A5; clear A5; refine Hid.out ?_)
      refine hid ?_
      go_wp2
      go_ret2
      exact ⟨_, rfl, B5.out.del.del.del.del⟩
end Go.Proofs.YtfeppannfcbakaaGreatDoor

namespace Go.Proofs.YtfeppannfcbakaaGreatDoor
open Go.RowKit
set_option linter.unusedVariables false

theorem hasName_any {w : World} (k : Int) : Calls Tryz.prog 124 #[.int .i64 k] w fun e w' => e = .returned (.bool (decide (1 ≤ k ∧ k ≤ 7))) ∧ w' = w := by
  by_cases h : 1 ≤ k
  · have e1 : decide (1 ≤ k) = true := by simpa using h
    have e : decide (1 ≤ k ∧ k ≤ 7) = decide (k ≤ 7) := by rw [Bool.eq_iff_iff]; simp; omega
    rw [e]; clear e
    go_enter Tryz.func124, Tryz.ntmps124
    go_wp2
    go_ret
    exact ⟨rfl, rfl⟩
  · have e1 : decide (1 ≤ k) = false := by simpa using h
    have e : decide (1 ≤ k ∧ k ≤ 7) = false := by simp; omega
    rw [e]; clear e
    go_enter Tryz.func124, Tryz.ntmps124
    go_wp2
    go_ret
    exact ⟨rfl, rfl⟩
theorem hasNum_any {w : World} (k : Int) : Calls Tryz.prog 127 #[.int .i64 k] w fun e w' => e = .returned (.bool (decide (k = 4 ∨ k = 6))) ∧ w' = w := by
  by_cases h : k = 4
  · subst h
    go_enter Tryz.func127, Tryz.ntmps127
    go_wp2
    go_ret
    exact ⟨by simp, rfl⟩
  · have e1 : (k == 4) = false := by simpa using h
    have e : decide (k = 4 ∨ k = 6) = (k == 6) := by rw [Bool.eq_iff_iff]; simp; omega
    rw [e]; clear e
    go_enter Tryz.func127, Tryz.ntmps127
    go_wp2
    go_ret
    exact ⟨rfl, rfl⟩
def tMost (k : Int) : Int := if k = 3 then 64 else if k = 5 then 16 else -1
def tLeast (k : Int) : Int := if k = 5 then 1 else 0
theorem textMost_any {w : World} (k : Int) : Calls Tryz.prog 125 #[.int .i64 k] w fun e w' => e = .returned (.int .i64 (tMost k)) ∧ w' = w := by
  by_cases h : k = 3
  · subst h
    go_enter Tryz.func125, Tryz.ntmps125
    go_wp2
    go_ret
    exact ⟨rfl, rfl⟩
  · have e1 : (k == 3) = false := by simpa using h
    by_cases h5 : k = 5
    · subst h5
      go_enter Tryz.func125, Tryz.ntmps125
      go_wp2
      go_ret
      exact ⟨rfl, rfl⟩
    · have e2 : (k == 5) = false := by simpa using h5
      rw [show tMost k = -1 by simp [tMost, h, h5]]
      clear h h5
      go_enter Tryz.func125, Tryz.ntmps125
      go_wp2
      go_ret
      exact ⟨rfl, rfl⟩
theorem textLeast_any {w : World} (k : Int) : Calls Tryz.prog 126 #[.int .i64 k] w fun e w' => e = .returned (.int .i64 (tLeast k)) ∧ w' = w := by
  by_cases h : k = 5
  · subst h
    go_enter Tryz.func126, Tryz.ntmps126
    go_wp2
    go_ret
    exact ⟨rfl, rfl⟩
  · have e1 : (k == 5) = false := by simpa using h
    rw [show tLeast k = 0 by simp [tLeast, h]]
    clear h
    go_enter Tryz.func126, Tryz.ntmps126
    go_wp2
    go_ret
    exact ⟨rfl, rfl⟩

theorem nonempty (v : ByteArray) (h : ¬ v.size = 0) : v.toList.isEmpty = false := by
  rw [ByteArray.toList_eq]
  obtain ⟨⟨l⟩⟩ := v
  cases l with
  | nil => exact absurd rfl h
  | cons a l => rfl
theorem isempty (v : ByteArray) (h : v.size = 0) : v.toList.isEmpty = true := by
  rw [ByteArray.toList_eq]
  obtain ⟨⟨l⟩⟩ := v
  cases l with
  | nil => rfl
  | cons a l => simp [ByteArray.size] at h

/-- The op lies in a block of its own. -/
abbrev opC (k : Int) (nm tx : ByteArray) (n m : Int) : Obj := .cells #[.int .i64 k, .string nm, .string tx, .int .i64 n, .int .i64 m] 24
structure Bx (w w1 : World) (k : Int) (nm tx : ByteArray) (n m : Int) : Prop where
  op : w1.heap[w.heap.size]? = some (opC k nm tx n m)
  below : Below w.heap.size w w1
theorem Bx.first (w : World) (k : Int) (nm tx : ByteArray) (n m : Int) : Bx w (w.alloc (opC k nm tx n m)) k nm tx n m := ⟨heap_alloc_new w _, ba w _⟩
theorem Bx.drewN {w w1 : World} {k : Int} {nm tx : ByteArray} {n m : Int} (h : Bx w w1 k nm tx n m) (q : Nat) : Bx w (w1.drewN q) k nm tx n m := ⟨h.op, ⟨h.below.os, h.below.tape, h.below.output, h.below.size, h.below.block⟩⟩
end Go.Proofs.YtfeppannfcbakaaGreatDoor

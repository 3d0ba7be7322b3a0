import Derived.Test.YtblojlaifnmimaaGreatDoorJ13
import Derived.Lib.OthersKept
import Derived.WalkSmall
import Derived.Test.YtblojlaifnmimaaGreatDoorJ10
namespace Go.Proofs.YtblojlaifnmimaaGreatDoor
open Go.RowKit Go.Lib
set_option linter.unusedVariables false

/-- A kind's word and its letters. -/
def nmN (k : Nat) : List UInt8 := (wfN.getD k ([], [])).1
def ltN (k : Nat) : List UInt8 := (wfN.getD k ([], [])).2
/-- The table of the kinds' forms. -/
def Wf (w : World) : Prop := 1 < w.heap.size ∧ ∀ k, k < 9 → w.cell? ⟨1, k * 2, none⟩ = some (.string ⟨(nmN k).toArray⟩) ∧ w.cell? ⟨1, k * 2 + 1, none⟩ = some (.string ⟨(ltN k).toArray⟩)
theorem Wf.later {w w' : World} (h : Wf w) (hb : Below w.heap.size w w') : Wf w' := ⟨Nat.lt_of_lt_of_le h.1 hb.size, fun k hk => ⟨cell_under hb h.1 (h.2 k hk).1, cell_under hb h.1 (h.2 k hk).2⟩⟩
theorem ltN_in {k : Nat} {x : UInt8} (h : x ∈ ltN k) : x.toNat = 78 ∨ x.toNat = 84 ∨ x.toNat = 75 ∨ x.toNat = 77 := by
  have key : ∀ p ∈ wfN, ∀ x ∈ p.2, x.toNat = 78 ∨ x.toNat = 84 ∨ x.toNat = 75 ∨ x.toNat = 77 := by decide
  unfold ltN at h
  by_cases hk : k < wfN.length
  · rw [List.getD, List.getElem?_eq_getElem hk] at h
    exact key _ (List.getElem_mem hk) x h
  · rw [List.getD, List.getElem?_eq_none (by omega)] at h
    cases h
theorem ltN_len (k : Nat) : (ltN k).length ≤ 3 := by
  have key : ∀ p ∈ wfN, p.2.length ≤ 3 := by decide
  unfold ltN
  by_cases hk : k < wfN.length
  · rw [List.getD, List.getElem?_eq_getElem hk]
    exact key _ (List.getElem_mem hk)
  · rw [List.getD, List.getElem?_eq_none (by omega)]
    simp
/-- A field's word. -/
def fieldW (nm tx : List UInt8) (n m : Nat) (c : Nat) : List UInt8 := if c = 78 then nm else if c = 84 then tx else if c = 75 then Lib.decDigits n else Lib.decDigits m
def flds (nm tx : List UInt8) (n m : Nat) (lt : List UInt8) : Ws := lt.map fun c => fieldW nm tx n m c.toNat
theorem flds_snoc (nm tx : List UInt8) (n m : Nat) {lt : List UInt8} {p : Nat} (h : p < lt.length) : flds nm tx n m (lt.take (p + 1)) = flds nm tx n m (lt.take p) ++ [fieldW nm tx n m (lt.getD p 0).toNat] := by
  rw [take_snocB h]
  simp [flds]

/-- A string's reader on its way. -/
def itC (g : Nat) (s : ByteArray) (p : Nat) : Comp := ⟨fun w => w.heap[g]? = some (.stringIter s p), [g]⟩
theorem itC_good (g : Nat) (s : ByteArray) (p : Nat) : (itC g s p).Good := fun w w' h _ hb => (hb g (by simp [itC])).trans h
theorem iter_below (w : World) (s : ByteArray) : Below w.heap.size w (w.iter s 0) := ba w _
theorem All.addIt {cs : List Comp} {w : World} (h : All cs w) (s : ByteArray) : All (itC w.heap.size s 0 :: cs) (w.iter s 0) := by
  refine h.add (Fr.below (iter_below w s)) (itC_good _ _ _) (World.iter_heap w s 0) (fun k hk => ?_)
  have : k = w.heap.size := by simpa [itC] using hk
  subst this
  exact ⟨Nat.le_refl _, by simp [World.iter]⟩
theorem All.setIt {g : Nat} {s : ByteArray} {p : Nat} {cs : List Comp} {w : World} (h : All (itC g s p :: cs) w) (q : Nat) : All (itC g s q :: cs) (w.iterAt g s q) := by
  have hg : w.heap[g]? = some (.stringIter s p) := h.1.2.1
  refine h.turn ⟨rfl, rfl, rfl, by simp [World.iterAt], fun k hk hF => ?_⟩ (itC_good _ _ _) (iterAt_heap w g s p q hg) (fun k hk => Or.inl hk) (fun k hk => ?_)
  · have hne : g ≠ k := fun e => hF (by simp [itC, e])
    simp only [World.iterAt]
    rw [Array.getElem?_setIfInBounds_ne hne]
  · have : k = g := by simpa [itC] using hk
    subst this
    simpa [World.iterAt] using h.1.2.2 k (by simp [itC])
theorem next_at {w : World} {g : Nat} {lt : List UInt8} {p : Nat} {cs : List Comp} (h : All (itC g ⟨lt.toArray⟩ p :: cs) w) (hp : p < lt.length) (ha : (lt.getD p 0).toNat < 128) :
    (Instr.next (.pointer (some ⟨g, 0, none⟩)) true 0).run Tryz.prog w = .ok (.tuple #[.bool true, .int .i64 (p : Int), .int .i32 ((lt.getD p 0).toNat : Int)]) (w.iterAt g ⟨lt.toArray⟩ (p + 1)) := by
  have hs : (⟨lt.toArray⟩ : ByteArray).size = lt.length := by simp [ByteArray.size]
  have e : (⟨lt.toArray⟩ : ByteArray)[p]'(by rw [hs]; exact hp) = lt.getD p 0 := by
    show ByteArray.get _ _ _ = _
    simp [ByteArray.get, List.getD, hp]
  have := run_next_ascii_at (P := Tryz.prog) w g ⟨lt.toArray⟩ p 0 h.1.2.1 (by rw [hs]; exact hp) (by rw [e]; exact ha)
  rw [e] at this
  exact this
theorem next_end {w : World} {g : Nat} {lt : List UInt8} {p : Nat} {cs : List Comp} (h : All (itC g ⟨lt.toArray⟩ p :: cs) w) (hp : ¬ p < lt.length) :
    (Instr.next (.pointer (some ⟨g, 0, none⟩)) true 0).run Tryz.prog w = .ok (.tuple #[.bool false]) w :=
  run_next_end_at (P := Tryz.prog) w g ⟨lt.toArray⟩ p 0 h.1.2.1 (by simpa [ByteArray.size] using hp)

set_option maxHeartbeats 800000 in
set_option maxRecDepth 1000000 in
theorem field_any {k : Int} {nm tx : List UInt8} {n m c : Nat} {w : World} (V : Vars w) (hn : n ≤ 1099511627776) (hm : m ≤ 1099511627776) (hc : c = 78 ∨ c = 84 ∨ c = 75 ∨ c = 77) :
    Calls Tryz.prog 83 #[opV k ⟨nm.toArray⟩ ⟨tx.toArray⟩ (n : Int) (m : Int), .int .i32 (c : Int)] w fun e w' => e = .returned (.string ⟨(fieldW nm tx n m c).toArray⟩) ∧ Below w.heap.size w w' := by
  have b0 := ba w (.cells #[.int .i64 k, .string ⟨nm.toArray⟩, .string ⟨tx.toArray⟩, .int .i64 (n : Int), .int .i64 (m : Int)] 41)
  have I1 := Itoa_any (v := (n : Int)) (V.later b0) (by omega) (by omega)
  have I2 := Itoa_any (v := (m : Int)) (V.later b0) (by omega) (by omega)
  rw [itoa_nat] at I1 I2
  have B := hid b0
  have J1 := hid I1
  have J2 := hid I2
  clear I1 I2 V hn hm b0
  rcases hc with rfl | rfl | rfl | rfl
  · have e1 : fieldW nm tx n m 78 = nm := rfl
    rw [e1]
    clear e1 J1 J2
    generalize ByteArray.mk nm.toArray = X1 at *
    generalize ByteArray.mk tx.toArray = X2 at *
    go_enter Tryz.func83, Tryz.ntmps83
    go_wp2
    go_ret
    exact ⟨rfl, B.out⟩
  · have e1 : fieldW nm tx n m 84 = tx := rfl
    rw [e1]
    clear e1 J1 J2
    generalize ByteArray.mk nm.toArray = X1 at *
    generalize ByteArray.mk tx.toArray = X2 at *
    go_enter Tryz.func83, Tryz.ntmps83
    go_wp2
    go_ret
    exact ⟨rfl, B.out⟩
  · have e1 : fieldW nm tx n m 75 = Lib.decDigits n := rfl
    rw [e1]
    clear e1 J2
    generalize ByteArray.mk nm.toArray = X1 at *
    generalize ByteArray.mk tx.toArray = X2 at *
    generalize ByteArray.mk (Lib.decDigits n).toArray = X3 at *
    go_enter Tryz.func83, Tryz.ntmps83
    go_wp2_with (go_at_call 52; refine J1.out.mono ?_; rintro e w1 ⟨rfl, b1⟩; have B1 := hid (B.out.trans (b1.mono B.out.size)); clear b1)
    go_ret
    exact ⟨rfl, B1.out⟩
  · have e1 : fieldW nm tx n m 77 = Lib.decDigits m := rfl
    rw [e1]
    clear e1 J1
    generalize ByteArray.mk nm.toArray = X1 at *
    generalize ByteArray.mk tx.toArray = X2 at *
    generalize ByteArray.mk (Lib.decDigits m).toArray = X3 at *
    go_enter Tryz.func83, Tryz.ntmps83
    go_wp2_with (go_at_call 52; refine J2.out.mono ?_; rintro e w1 ⟨rfl, b1⟩; have B1 := hid (B.out.trans (b1.mono B.out.size)); clear b1)
    go_ret
    exact ⟨rfl, B1.out⟩
end Go.Proofs.YtblojlaifnmimaaGreatDoor

namespace Go.Proofs.YtblojlaifnmimaaGreatDoor
open Go.RowKit Go.Lib
set_option linter.unusedVariables false

/-- An op's words. -/
def opW (k : Nat) (nm tx : List UInt8) (n m : Nat) : Ws := nmN k :: flds nm tx n m (ltN k)
/-- What the check tells. -/
def chkO (k : Int) (nm tx : List UInt8) (n m : Int) : Int := chkA k nm.length tx.length n m
def opA (k : Int) (nm tx : List UInt8) (n m : Int) : Ws := if chkO k nm tx n m ≠ 0 then [] else opW k.toNat nm tx n.toNat m.toNat
theorem wr_ok {a b n : Int} (h : wr a b n = false) (hx : ex b n = false) (ha : 0 ≤ a) : 0 ≤ n ∧ (n ≤ b ∨ n = 0) ∧ (¬ 0 < b → n = 0) ∧ (0 < b → a ≤ n) := by
  by_cases hb : 0 < b
  · have h1 : a ≤ n ∧ n ≤ b := by simpa [wr, hs, hl, hb] using h
    refine ⟨by omega, Or.inl h1.2, fun h => absurd hb h, fun _ => h1.1⟩
  · have h1 : n = 0 := by simpa [ex, hs, hb] using hx
    exact ⟨by omega, Or.inr h1, fun _ => h1, fun h => absurd h hb⟩
theorem chkR_zero {a0 a1 a2 a3 a4 a5 a6 a7 s t n m : Int} (h : chkR a0 a1 a2 a3 a4 a5 a6 a7 s t n m = 0) : wr a0 a1 s = false ∧ wr a2 a3 t = false ∧ wr a4 a5 n = false ∧ wr a6 a7 m = false ∧ ex a1 s = false ∧ ex a3 t = false ∧ ex a5 n = false ∧ ex a7 m = false := by
  unfold chkR at h
  repeat' (split at h; · simp at h)
  simp_all
/-- What holds of an op that the check lets pass. -/
theorem chkO_zero {k : Int} {nm tx : List UInt8} {n m : Int} (h : chkO k nm tx n m = 0) : 1 ≤ k ∧ k ≤ 8 ∧ 0 ≤ n ∧ n ≤ 1099511627776 ∧ 0 ≤ m ∧ m ≤ 1099511627776 ∧ nm.length ≤ 64 ∧ tx.length ≤ 64
    ∧ (78 ∉ ltN k.toNat → nm = []) ∧ (84 ∉ ltN k.toNat → tx = []) ∧ (75 ∉ ltN k.toNat → n = 0) ∧ (77 ∉ ltN k.toNat → m = 0) := by
  unfold chkO chkA at h
  by_cases hk : k < 1 ∨ 8 < k
  · rw [if_pos hk] at h; simp at h
  rw [if_neg hk] at h
  unfold chkT at h
  obtain ⟨h1, h2, h3, h4, h5, h6, h7, h8⟩ := chkR_zero h
  clear h
  generalize hs1 : (nm.length : Int) = s1 at *
  generalize hs2 : (tx.length : Int) = s2 at *
  have hnm : ∀ {l : List UInt8}, (l.length : Int) = 0 → l = [] := fun {l} h => List.eq_nil_of_length_eq_zero (by omega)
  obtain rfl | rfl | rfl | rfl | rfl | rfl | rfl | rfl : k = 1 ∨ k = 2 ∨ k = 3 ∨ k = 4 ∨ k = 5 ∨ k = 6 ∨ k = 7 ∨ k = 8 := by omega
  all_goals
    have q1 := wr_ok h1 h5 (by decide)
    have q2 := wr_ok h2 h6 (by decide)
    have q3 := wr_ok h3 h7 (by decide)
    have q4 := wr_ok h4 h8 (by decide)
    clear h1 h2 h3 h4 h5 h6 h7 h8 hk
    simp [formN] at q1 q2 q3 q4
    refine ⟨by omega, by omega, by omega, by omega, by omega, by omega, by omega, by omega, fun hx => ?_, fun hx => ?_, fun hx => ?_, fun hx => ?_⟩
    all_goals first | omega | exact absurd (by decide) hx | (exact hnm (by omega))

theorem chkO_any {k : Int} {nm tx : List UInt8} {n m : Int} {w : World} (hT : Tab w) : Calls Tryz.prog 82 #[opV k ⟨nm.toArray⟩ ⟨tx.toArray⟩ n m] w fun e w' => e = .returned (.int .i64 (chkO k nm tx n m)) ∧ Below w.heap.size w w' := by
  have := check_any hT k ⟨nm.toArray⟩ ⟨tx.toArray⟩ n m
  have e1 : (⟨nm.toArray⟩ : ByteArray).size = nm.length := by simp [ByteArray.size]
  have e2 : (⟨tx.toArray⟩ : ByteArray).size = tx.length := by simp [ByteArray.size]
  rw [e1, e2] at this
  exact this

theorem blk5 {B : Nat} {a b c d e : Value} {t : TypeId} {cs : List Comp} {w : World} (h : All cs w) (hm : blkC B [a, b, c, d, e] t ∈ cs) : w.cell? ⟨B, 0, none⟩ = some a ∧ w.cell? ⟨B, 1, none⟩ = some b ∧ w.cell? ⟨B, 2, none⟩ = some c ∧ w.cell? ⟨B, 3, none⟩ = some d ∧ w.cell? ⟨B, 4, none⟩ = some e ∧ B < w.heap.size := by
  have hb := (h.mem hm).2.1
  exact ⟨by rw [cell_at hb]; rfl, by rw [cell_at hb]; rfl, by rw [cell_at hb]; rfl, by rw [cell_at hb]; rfl, by rw [cell_at hb]; rfl, (h.mem hm).2.2 B (by simp [blkC])⟩
theorem blk2 {B : Nat} {a b : Value} {t : TypeId} {cs : List Comp} {w : World} (h : All cs w) (hm : blkC B [a, b] t ∈ cs) : w.cell? ⟨B, 0, none⟩ = some a ∧ w.cell? ⟨B, 1, none⟩ = some b ∧ B < w.heap.size := by
  have hb := (h.mem hm).2.1
  exact ⟨by rw [cell_at hb]; rfl, by rw [cell_at hb]; rfl, (h.mem hm).2.2 B (by simp [blkC])⟩

set_option maxHeartbeats 1600000 in
set_option maxRecDepth 1000000 in
theorem Op_any {k n m : Int} {nm tx : List UInt8} {cs : List Comp} {w : World} (A : All cs w) (hV : ∀ W, All cs W → Vars W) (hT : ∀ W, All cs W → Tab W) (hW : ∀ W, All cs W → Wf W) :
    Calls Tryz.prog 55 #[opV k ⟨nm.toArray⟩ ⟨tx.toArray⟩ n m] w (WRPost (opA k nm tx n m) (chkO k nm tx n m) cs) := by
  have A0 := hid (A.addBlk [.int .i64 k, .string ⟨nm.toArray⟩, .string ⟨tx.toArray⟩, .int .i64 n, .int .i64 m] 41)
  have CK := hid (chkO_any (k := k) (nm := nm) (tx := tx) (n := n) (m := m) (hT _ A0.out.tail))
  by_cases hX : chkO k nm tx n m ≠ 0
  · have e1 : opA k nm tx n m = [] := by unfold opA; rw [if_pos hX]
    rw [e1]
    have hX' : (chkO k nm tx n m != 0) = true := by simpa using hX
    clear e1 hX hT hV hW A
    generalize chkO k nm tx n m = XX at *
    generalize ByteArray.mk nm.toArray = X1 at *
    generalize ByteArray.mk tx.toArray = X2 at *
    go_enter Tryz.func55, Tryz.ntmps55
    go_wp2_with (go_at_call 82; refine CK.out.mono ?_; rintro e w1 ⟨rfl, B1⟩; have A1 := hid (A0.out.later B1); clear B1)
    go_ret2
    exact ⟨_, rfl, All.addNil A1.out.tail⟩
  have hX0 : chkO k nm tx n m = 0 := Classical.byContradiction hX
  have e1 : opA k nm tx n m = opW k.toNat nm tx n.toNat m.toNat := by unfold opA; rw [if_neg hX]
  obtain ⟨hk1, hk8, hn0, hn1, hm0, hm1, _, _, _⟩ := chkO_zero hX0
  rw [e1]
  rw [hX0] at CK ⊢
  clear hX hX0 e1 A
  obtain ⟨k, rfl⟩ := Int.eq_ofNat_of_zero_le (show 0 ≤ k by omega)
  obtain ⟨n, rfl⟩ := Int.eq_ofNat_of_zero_le hn0
  obtain ⟨m, rfl⟩ := Int.eq_ofNat_of_zero_le hm0
  rw [Int.toNat_natCast, Int.toNat_natCast, Int.toNat_natCast]
  have hk9 : (k : Int) < 9 := by omega
  have TB : Hid (∀ W, All cs W → W.cell? ⟨1, k * 2, none⟩ = some (.string ⟨(nmN k).toArray⟩) ∧ W.cell? ⟨1, k * 2 + 1, none⟩ = some (.string ⟨(ltN k).toArray⟩)) := hid (fun W h => (hW W h).2 k (by omega))
  have F19 : Hid (∀ (c : Nat) ds W, All ds W → (∀ W, All ds W → All cs W) → (c = 78 ∨ c = 84 ∨ c = 75 ∨ c = 77) → Calls Tryz.prog 83 #[opV (k : Int) ⟨nm.toArray⟩ ⟨tx.toArray⟩ (n : Int) (m : Int), .int .i32 (c : Int)] W fun e w' => e = .returned (.string ⟨(fieldW nm tx n m c).toArray⟩) ∧ All ds w') := hid (fun c ds W h hcs hc => (field_any (hV W (hcs W h)) (by omega) (by omega) hc).mono fun e w' ⟨he, hb⟩ => ⟨he, h.later hb⟩)
  have LT : Hid (∀ p, p < (ltN k).length → ((ltN k).getD p 0).toNat = 78 ∨ ((ltN k).getD p 0).toNat = 84 ∨ ((ltN k).getD p 0).toNat = 75 ∨ ((ltN k).getD p 0).toNat = 77) := hid (fun p hp => ltN_in (by
    have : (ltN k).getD p 0 = (ltN k)[p] := by simp [List.getD, hp]
    rw [this]; exact List.getElem_mem hp))
  have L3 := hid (ltN_len k)
  have SN : Hid (∀ p, p < (ltN k).length → flds nm tx n m ((ltN k).take (p + 1)) = flds nm tx n m ((ltN k).take p) ++ [fieldW nm tx n m ((ltN k).getD p 0).toNat]) := hid (fun p hp => flds_snoc nm tx n m hp)
  have FL : Hid (∀ p, (flds nm tx n m ((ltN k).take p)).length ≤ p) := hid (fun p => by simp [flds]; omega)
  have EW : Hid (opW k nm tx n m = nmN k :: flds nm tx n m ((ltN k).take (ltN k).length)) := hid (by rw [List.take_length]; rfl)
  generalize opW k nm tx n m = OW at *
  clear hT hV hW hn0 hm0 hk8
  generalize hlt : ltN k = lt at *
  clear hlt
  generalize hXl : ByteArray.mk lt.toArray = XL at *
  have HXL := hid hXl
  clear hXl
  generalize ByteArray.mk nm.toArray = X1 at *
  generalize ByteArray.mk tx.toArray = X2 at *
  generalize hXn : ByteArray.mk (nmN k).toArray = XN at *
  have HXN := hid hXn
  clear hXn
  go_enter Tryz.func55, Tryz.ntmps55
  go_wp2_with (go_at_call 82; refine CK.out.mono ?_; rintro e w1 ⟨rfl, B1⟩; have A1 := hid (A0.out.later B1); clear B1; refine Hid.out ?_)
  refine hid ?_
  clear CK A0
  have hb := A1.out.1.2.1
  have o0 : w1.cell? ⟨w.heap.size, 0, none⟩ = some (.int .i64 (k : Int)) := by rw [cell_at hb]; rfl
  clear hb
  obtain ⟨t0, t1⟩ := TB.out _ A1.out.tail
  have A2 := hid (A1.out.addBlk [.string XN, .string XL] 125)
  have esz : (w1.alloc (.cells #[.string XN, .string XL] 125)).heap.size = w1.heap.size + 1 := by simp
  have A3 := A2.out.addIt XL
  have B3 : Hid (All (ownC 9 (.slice none 0 0) (txW (flds nm tx n m (lt.take 0))) :: itC (w1.heap.size + 1) XL 0 :: blkC w1.heap.size [.string XN, .string XL] 125 :: blkC w.heap.size [.int .i64 (k : Int), .string X1, .string X2, .int .i64 (n : Int), .int .i64 (m : Int)] 41 :: cs) ((w1.alloc (.cells #[.string XN, .string XL] 125)).iter XL 0)) := hid (by rw [← esz]; exact All.addNil A3)
  clear A2 A3 esz A1
  go_wp2_with fail
  generalize hI : w1.heap.size + 1 = IT at *
  clear hI
  go_loopw [6, 8] (fun av u wr => ∃ p, p ≤ lt.length ∧ Hid (All (ownC 9 av (txW (flds nm tx n m (lt.take p))) :: itC IT XL p :: blkC w1.heap.size [.string XN, .string XL] 125 :: blkC w.heap.size [.int .i64 (k : Int), .string X1, .string X2, .int .i64 (n : Int), .int .i64 (m : Int)] 41 :: cs) wr)) (fun av u wr => lt.length - wr.iterPos IT)
  case atStart => exact ⟨0, Nat.zero_le _, B3⟩
  case round =>
    clear B3 o0 t0 t1 TB
    obtain ⟨p, hp, HA⟩ := hrel
    by_cases hlt : p < lt.length
    · have hn := next_at (lt := lt) (p := p) (g := IT) (w := wr) (by rw [HXL.out]; exact HA.out.swap) hlt (by have := LT.out p hlt; omega)
      rw [HXL.out] at hn
      have A4 := hid ((HA.out.swap.setIt (p + 1)).swap)
      have m0 : Hid (wr.iterPos IT = p) := hid (iterPos_of HA.out.tail.1.2.1)
      have hc := hid (LT.out p hlt)
      have sn := hid (SN.out p hlt)
      clear HA
      generalize wr.iterAt IT XL (p + 1) = w2 at hn A4
      obtain ⟨r0, r1, r2, r3, r4, _⟩ := blk5 A4.out (.tail _ (.tail _ (.tail _ (.head _))))
      have Q := hid (F19.out _ _ _ A4.out (fun W h => h.tail.tail.tail.tail) hc.out)
      clear hc LT SN F19
      generalize hFW : fieldW nm tx n m (lt.getD p 0).toNat = FW at Q sn
      clear hFW
      generalize (lt.getD p 0).toNat = C at hn Q
      generalize hY : ByteArray.mk FW.toArray = Y at Q
      have HY := hid hY
      clear hY
      go_wp2_with (go_at_call 83; refine Q.out.mono ?_; rintro e w3 ⟨rfl, A5⟩; have B5 := hid A5; clear A5; refine Hid.out ?_)
      refine hid ?_
      clear Q A4 hn r0 r1 r2 r3 r4
      obtain ⟨ao6, c6, w6, hr6, A6⟩ := app_txt B5.out FW (by have := FL.out p; have := L3.out; omega)
      rw [HY.out] at hr6
      have R6 := hid hr6
      rw [← sn.out] at A6
      have B6 := hid A6
      have m6 : Hid (w6.iterPos IT = p + 1) := hid (iterPos_of A6.tail.1.2.1)
      clear hr6 A6 B5
      go_wp2_with (at_builtin; refine wpList_append_run rfl _ _ 46 rfl _ _ _ _ rfl rfl R6.out ?_)
      go_roundw
      case rel => exact ⟨p + 1, hlt, B6⟩
      case measure => rw [m0.out, m6.out]; omega
    · have hn := next_end (lt := lt) (p := p) (g := IT) (w := wr) (by rw [HXL.out]; exact HA.out.swap) hlt
      have ep : p = lt.length := by omega
      subst ep
      obtain ⟨r0, r1, _⟩ := blk2 HA.out (.tail _ (.tail _ (.head _)))
      have Q := row2 (x := nmN k) HA.out (rt_own HA.out) (by have := FL.out lt.length; have := L3.out; omega)
      rw [HXN.out, ← EW.out] at Q
      have QQ := hid Q
      clear Q HA
      go_wp2_with (go_at_call 84; refine QQ.out.mono ?_; rintro e w5 ⟨v5, rfl, A5⟩; have B5 := hid A5; clear A5; refine Hid.out ?_)
      refine hid ?_
      go_wp2
      go_ret2
      exact ⟨_, rfl, B5.out.del.del.del.del⟩
end Go.Proofs.YtblojlaifnmimaaGreatDoor

namespace Go.Proofs.YtblojlaifnmimaaGreatDoor
open Go.RowKit Go.Lib
set_option linter.unusedVariables false

def kN : Ws := wfN.map (·.1)
theorem kN_at {k : Nat} (h : k < 9) : kN.getD k [] = nmN k := by
  obtain rfl | rfl | rfl | rfl | rfl | rfl | rfl | rfl | rfl : k = 0 ∨ k = 1 ∨ k = 2 ∨ k = 3 ∨ k = 4 ∨ k = 5 ∨ k = 6 ∨ k = 7 ∨ k = 8 := by omega
  all_goals rfl
set_option maxRecDepth 1000000 in
theorem kinds_any {w : World} : Calls Tryz.prog 76 #[] w fun e w' => e = .returned (.slice (some ⟨w.heap.size, 0, none⟩) 9 9) ∧ w' = w.alloc (.cells (txW kN).toArray 9) := by
  have e1 : (txW kN).toArray = #[.string ⟨#[]⟩, .string ⟨#[109, 97, 107, 101]⟩, .string ⟨#[100, 114, 111, 112]⟩, .string ⟨#[112, 117, 115, 104]⟩, .string ⟨#[116, 114, 105, 109]⟩, .string ⟨#[116, 97, 107, 101]⟩, .string ⟨#[114, 101, 97, 100]⟩, .string ⟨#[99, 111, 117, 110, 116]⟩, .string ⟨#[108, 105, 115, 116]⟩] := rfl
  rw [e1]
  clear e1
  go_enter Tryz.func76, Tryz.ntmps76
  go_wp2
  go_ret
  exact ⟨rfl, rfl⟩
theorem rt_kinds (w : World) : Rt (w.alloc (.cells (txW kN).toArray 9)) (.slice (some ⟨w.heap.size, 0, none⟩) 9 9) kN := rt_own (own_new (All.came w) kN (by simp [kN, wfN]))
theorem rchkO_any {k : Int} {nm tx : List UInt8} {n m : Int} {w : World} : Calls Tryz.prog 77 #[opV k ⟨nm.toArray⟩ ⟨tx.toArray⟩ n m] w fun e w' => e = .returned (.int .i64 (chkO k nm tx n m)) ∧ Below w.heap.size w w' := by
  have := rcheck_any (w := w) k ⟨nm.toArray⟩ ⟨tx.toArray⟩ n m
  have e1 : (⟨nm.toArray⟩ : ByteArray).size = nm.length := by simp [ByteArray.size]
  have e2 : (⟨tx.toArray⟩ : ByteArray).size = tx.length := by simp [ByteArray.size]
  rw [e1, e2] at this
  exact this

set_option maxHeartbeats 1000000 in
set_option maxRecDepth 1000000 in
theorem rOp_any {k n m : Int} {nm tx : List UInt8} {cs : List Comp} {w : World} (A : All cs w) :
    Calls Tryz.prog 58 #[opV k ⟨nm.toArray⟩ ⟨tx.toArray⟩ n m] w (WRPost (opA k nm tx n m) (chkO k nm tx n m) cs) := by
  have A0 := hid (A.addBlk [.int .i64 k, .string ⟨nm.toArray⟩, .string ⟨tx.toArray⟩, .int .i64 n, .int .i64 m] 41)
  have CK := hid (rchkO_any (k := k) (nm := nm) (tx := tx) (n := n) (m := m) (w := w.alloc (.cells #[.int .i64 k, .string ⟨nm.toArray⟩, .string ⟨tx.toArray⟩, .int .i64 n, .int .i64 m] 41)))
  by_cases hX : chkO k nm tx n m ≠ 0
  · have e1 : opA k nm tx n m = [] := by unfold opA; rw [if_pos hX]
    rw [e1]
    have hX' : (chkO k nm tx n m != 0) = true := by simpa using hX
    clear e1 hX A
    generalize chkO k nm tx n m = XX at *
    generalize ByteArray.mk nm.toArray = X1 at *
    generalize ByteArray.mk tx.toArray = X2 at *
    go_enter Tryz.func58, Tryz.ntmps58
    go_wp2_with (go_at_call 77; refine CK.out.mono ?_; rintro e w1 ⟨rfl, B1⟩; have A1 := hid (A0.out.later B1); clear B1)
    go_ret2
    exact ⟨_, rfl, All.addNil A1.out.tail⟩
  have hX0 : chkO k nm tx n m = 0 := Classical.byContradiction hX
  have e1 : opA k nm tx n m = opW k.toNat nm tx n.toNat m.toNat := by unfold opA; rw [if_neg hX]
  obtain ⟨hk1, hk8, hn0, hn1, hm0, hm1, _, _, _⟩ := chkO_zero hX0
  rw [e1]
  rw [hX0] at CK ⊢
  clear hX hX0 e1 A
  obtain ⟨k, rfl⟩ := Int.eq_ofNat_of_zero_le (show 0 ≤ k by omega)
  obtain ⟨n, rfl⟩ := Int.eq_ofNat_of_zero_le hn0
  obtain ⟨m, rfl⟩ := Int.eq_ofNat_of_zero_le hm0
  rw [Int.toNat_natCast, Int.toNat_natCast, Int.toNat_natCast]
  have hk9 : (k : Int) < 9 := by omega
  have C22 : Hid (∀ W, All (blkC w.heap.size [.int .i64 (k : Int), .string ⟨nm.toArray⟩, .string ⟨tx.toArray⟩, .int .i64 (n : Int), .int .i64 (m : Int)] 41 :: cs) W → Calls Tryz.prog 76 #[] W.drew fun e w' => ∃ H, e = .returned (.slice (some ⟨H, 0, none⟩) 9 9) ∧ w'.cell? ⟨H, k, none⟩ = some (.string ⟨(nmN k).toArray⟩) ∧ w'.cell? ⟨w.heap.size, 0, none⟩ = some (.int .i64 (k : Int)) ∧ Hid (All (blkC w.heap.size [.int .i64 (k : Int), .string ⟨nm.toArray⟩, .string ⟨tx.toArray⟩, .int .i64 (n : Int), .int .i64 (m : Int)] 41 :: cs) w')) := hid (fun W hA => by
    refine Calls.mono kinds_any ?_
    rintro e w' ⟨rfl, rfl⟩
    have hA' := hA.drew.alloc (.cells (txW kN).toArray 9)
    refine ⟨_, rfl, ?_, (blk5 hA' (.head _)).1, hid hA'⟩
    obtain ⟨g, o, e, _, hc⟩ := (rt_kinds W.drew).at (j := k) (by simp [kN, wfN]; omega)
    simp only [Option.some.injEq, Addr.mk.injEq, and_true] at e
    obtain ⟨rfl, rfl⟩ := e
    rw [kN_at (by omega)] at hc
    simpa using hc)
  have NW : Hid (∀ W ds, All ds W → All (ownC 9 (.slice (some ⟨W.heap.size, 0, none⟩) 1 1) (txW [nmN k]) :: ds) (W.alloc (.cells #[.string ⟨(nmN k).toArray⟩] 9))) := hid (fun W ds hA => own_new hA [nmN k] (by simp))
  have AP : Hid (∀ (v : Value) (u : Ws) (x : List UInt8) (X : ByteArray) ds W, Hid (ByteArray.mk x.toArray = X) → Hid (All (ownC 9 v (txW u) :: ds) W) → u.length ≤ 10 → ∃ v' w', (Builtin.append_ #[46, 46] 46 #[v, .slice (some ⟨W.heap.size, 0, none⟩) 1 1]).run Tryz.prog (W.alloc (.cells #[.string X] 9)) = .ok v' w' ∧ Hid (All (ownC 9 v' (txW (u ++ [x])) :: ds) w')) := hid (fun v u x X ds W hX hA hu => by
    obtain ⟨ao, c, w', hr, A'⟩ := app_txt hA.out x (by omega)
    rw [hX.out] at hr
    exact ⟨_, w', hr, hid A'⟩)
  have DG : Hid (∀ (j : Nat) ds W, j ≤ 1099511627776 → Hid (All ds W) → Calls Tryz.prog 30 #[.int .i64 (j : Int)] W fun e w' => e = .returned (.string ⟨(Lib.decDigits j).toArray⟩) ∧ Hid (All ds w')) := hid (fun j ds W hj hA => (Digits_any j W (by omega)).mono fun e w' ⟨he, hb⟩ => ⟨he, hid (hA.out.later hb)⟩)
  have EW : Hid (opW k nm tx n m = nmN k :: flds nm tx n m (ltN k)) := hid rfl
  generalize opW k nm tx n m = OW at *
  have hn1' : Hid (n ≤ 1099511627776) := hid (by omega)
  have hm1' : Hid (m ≤ 1099511627776) := hid (by omega)
  have hk1' : 1 ≤ k := by omega
  have hk8' : k ≤ 8 := by omega
  clear hn0 hm0 hk8 hk1 hn1 hm1
  generalize hX1 : ByteArray.mk nm.toArray = X1 at *
  have HX1 := hid hX1
  generalize hX2 : ByteArray.mk tx.toArray = X2 at *
  have HX2 := hid hX2
  generalize hXn : ByteArray.mk (nmN k).toArray = XN at *
  generalize hXa : ByteArray.mk (Lib.decDigits n).toArray = XA at *
  have HXA := hid hXa
  generalize hXb : ByteArray.mk (Lib.decDigits m).toArray = XB at *
  have HXB := hid hXb
  have DN : Hid (∀ ds W, Hid (All ds W) → Calls Tryz.prog 30 #[.int .i64 (n : Int)] W fun e w' => e = .returned (.string XA) ∧ Hid (All ds w')) := hid (fun ds W h => by have := DG.out n ds W hn1'.out h; rw [hXa] at this; exact this)
  have DM : Hid (∀ ds W, Hid (All ds W) → Calls Tryz.prog 30 #[.int .i64 (m : Int)] W fun e w' => e = .returned (.string XB) ∧ Hid (All ds w')) := hid (fun ds W h => by have := DG.out m ds W hm1'.out h; rw [hXb] at this; exact this)
  clear hX1 hX2 hXn hXa hXb DG
  go_enter Tryz.func58, Tryz.ntmps58
  go_wp2_with (go_at_call 77; refine CK.out.mono ?_; rintro e w1 ⟨rfl, B1⟩; have A1 := hid (A0.out.later B1); clear B1; refine Hid.out ?_)
  refine hid ?_
  obtain ⟨y0, y1, y2, y3, y4, _⟩ := blk5 A1.out (.head _)
  have Q22 := hid (C22.out _ A1.out)
  go_wp2
  go_region_law (go_simp; first | (go_at_call 76; refine Q22.out.mono ?_; rintro e w2 ⟨H, rfl, u0, u1, A2⟩))
  all_goals
    have A3 := hid (NW.out _ _ A2.out)
    obtain ⟨z0, z1, z2, z3, z4, _⟩ := blk5 A3.out (.tail _ (.head _))
    clear C22 Q22 A1 y0 y1 y2 y3 y4 A0 CK u0 u1 A2 NW
    generalize hW3 : World.alloc w2 _ = w3 at *
    clear hW3
    generalize nmN k = NM at *
    generalize hlt : ltN k = lt at *
    have HLT := hid hlt
    clear hlt
    obtain rfl | rfl | rfl | rfl | rfl | rfl | rfl | rfl : k = 1 ∨ k = 2 ∨ k = 3 ∨ k = 4 ∨ k = 5 ∨ k = 6 ∨ k = 7 ∨ k = 8 := by omega
    · obtain ⟨va0, wa0, hr0, B0⟩ := AP.out _ _ nm _ _ _ HX1 A3 (by simp)
      have R0 := hid hr0
      clear hr0
      go_wp2_with (at_builtin; refine wpList_append_run rfl _ _ 46 rfl _ _ _ _ rfl rfl R0.out ?_; refine Hid.out ?_)
      refine hid ?_
      clear A3 R0 z0 z1 z2 z3 z4
      obtain ⟨z0, z1, z2, z3, z4, _⟩ := blk5 B0.out (.tail _ (.head _))
      go_wp2
      go_ret2
      have e9 : OW = NM :: flds nm tx n m [78] := (by rw [EW.out, ← HLT.out]; rfl)
      exact ⟨_, rfl, by rw [e9]; exact B0.out.del⟩
    · obtain ⟨va0, wa0, hr0, B0⟩ := AP.out _ _ nm _ _ _ HX1 A3 (by simp)
      have R0 := hid hr0
      clear hr0
      go_wp2_with (at_builtin; refine wpList_append_run rfl _ _ 46 rfl _ _ _ _ rfl rfl R0.out ?_; refine Hid.out ?_)
      refine hid ?_
      clear A3 R0 z0 z1 z2 z3 z4
      obtain ⟨z0, z1, z2, z3, z4, _⟩ := blk5 B0.out (.tail _ (.head _))
      go_wp2
      go_ret2
      have e9 : OW = NM :: flds nm tx n m [78] := (by rw [EW.out, ← HLT.out]; rfl)
      exact ⟨_, rfl, by rw [e9]; exact B0.out.del⟩
    · obtain ⟨va0, wa0, hr0, B0⟩ := AP.out _ _ nm _ _ _ HX1 A3 (by simp)
      have R0 := hid hr0
      clear hr0
      go_wp2_with (at_builtin; refine wpList_append_run rfl _ _ 46 rfl _ _ _ _ rfl rfl R0.out ?_; refine Hid.out ?_)
      refine hid ?_
      clear A3 R0 z0 z1 z2 z3 z4
      obtain ⟨z0, z1, z2, z3, z4, _⟩ := blk5 B0.out (.tail _ (.head _))
      obtain ⟨va1, wa1, hr1, B1⟩ := AP.out _ _ tx _ _ _ HX2 B0 (by simp)
      have R1 := hid hr1
      clear hr1
      go_wp2_with (at_builtin; refine wpList_append_run rfl _ _ 46 rfl _ _ _ _ rfl rfl R1.out ?_; refine Hid.out ?_)
      refine hid ?_
      clear B0 R1 z0 z1 z2 z3 z4
      obtain ⟨z0, z1, z2, z3, z4, _⟩ := blk5 B1.out (.tail _ (.head _))
      go_wp2
      go_ret2
      have e9 : OW = NM :: flds nm tx n m [78, 84] := (by rw [EW.out, ← HLT.out]; rfl)
      exact ⟨_, rfl, by rw [e9]; exact B1.out.del⟩
    · obtain ⟨va0, wa0, hr0, B0⟩ := AP.out _ _ nm _ _ _ HX1 A3 (by simp)
      have R0 := hid hr0
      clear hr0
      go_wp2_with (at_builtin; refine wpList_append_run rfl _ _ 46 rfl _ _ _ _ rfl rfl R0.out ?_; refine Hid.out ?_)
      refine hid ?_
      clear A3 R0 z0 z1 z2 z3 z4
      obtain ⟨z0, z1, z2, z3, z4, _⟩ := blk5 B0.out (.tail _ (.head _))
      have Q1 := hid (DN.out _ _ B0)
      go_wp2_with (go_at_call 30; refine Q1.out.mono ?_; rintro e wd1 ⟨rfl, D1⟩; refine Hid.out ?_)
      refine hid ?_
      clear B0 Q1 z0 z1 z2 z3 z4
      obtain ⟨z0, z1, z2, z3, z4, _⟩ := blk5 D1.out (.tail _ (.head _))
      obtain ⟨va1, wa1, hr1, B1⟩ := AP.out _ _ (Lib.decDigits n) _ _ _ HXA D1 (by simp)
      have R1 := hid hr1
      clear hr1
      go_wp2_with (at_builtin; refine wpList_append_run rfl _ _ 46 rfl _ _ _ _ rfl rfl R1.out ?_; refine Hid.out ?_)
      refine hid ?_
      clear D1 R1 z0 z1 z2 z3 z4
      obtain ⟨z0, z1, z2, z3, z4, _⟩ := blk5 B1.out (.tail _ (.head _))
      go_wp2
      go_ret2
      have e9 : OW = NM :: flds nm tx n m [78, 75] := (by rw [EW.out, ← HLT.out]; rfl)
      exact ⟨_, rfl, by rw [e9]; exact B1.out.del⟩
    · obtain ⟨va0, wa0, hr0, B0⟩ := AP.out _ _ nm _ _ _ HX1 A3 (by simp)
      have R0 := hid hr0
      clear hr0
      go_wp2_with (at_builtin; refine wpList_append_run rfl _ _ 46 rfl _ _ _ _ rfl rfl R0.out ?_; refine Hid.out ?_)
      refine hid ?_
      clear A3 R0 z0 z1 z2 z3 z4
      obtain ⟨z0, z1, z2, z3, z4, _⟩ := blk5 B0.out (.tail _ (.head _))
      obtain ⟨va1, wa1, hr1, B1⟩ := AP.out _ _ tx _ _ _ HX2 B0 (by simp)
      have R1 := hid hr1
      clear hr1
      go_wp2_with (at_builtin; refine wpList_append_run rfl _ _ 46 rfl _ _ _ _ rfl rfl R1.out ?_; refine Hid.out ?_)
      refine hid ?_
      clear B0 R1 z0 z1 z2 z3 z4
      obtain ⟨z0, z1, z2, z3, z4, _⟩ := blk5 B1.out (.tail _ (.head _))
      go_wp2
      go_ret2
      have e9 : OW = NM :: flds nm tx n m [78, 84] := (by rw [EW.out, ← HLT.out]; rfl)
      exact ⟨_, rfl, by rw [e9]; exact B1.out.del⟩
    · obtain ⟨va0, wa0, hr0, B0⟩ := AP.out _ _ nm _ _ _ HX1 A3 (by simp)
      have R0 := hid hr0
      clear hr0
      go_wp2_with (at_builtin; refine wpList_append_run rfl _ _ 46 rfl _ _ _ _ rfl rfl R0.out ?_; refine Hid.out ?_)
      refine hid ?_
      clear A3 R0 z0 z1 z2 z3 z4
      obtain ⟨z0, z1, z2, z3, z4, _⟩ := blk5 B0.out (.tail _ (.head _))
      have Q1 := hid (DN.out _ _ B0)
      go_wp2_with (go_at_call 30; refine Q1.out.mono ?_; rintro e wd1 ⟨rfl, D1⟩; refine Hid.out ?_)
      refine hid ?_
      clear B0 Q1 z0 z1 z2 z3 z4
      obtain ⟨z0, z1, z2, z3, z4, _⟩ := blk5 D1.out (.tail _ (.head _))
      obtain ⟨va1, wa1, hr1, B1⟩ := AP.out _ _ (Lib.decDigits n) _ _ _ HXA D1 (by simp)
      have R1 := hid hr1
      clear hr1
      go_wp2_with (at_builtin; refine wpList_append_run rfl _ _ 46 rfl _ _ _ _ rfl rfl R1.out ?_; refine Hid.out ?_)
      refine hid ?_
      clear D1 R1 z0 z1 z2 z3 z4
      obtain ⟨z0, z1, z2, z3, z4, _⟩ := blk5 B1.out (.tail _ (.head _))
      have Q2 := hid (DM.out _ _ B1)
      go_wp2_with (go_at_call 30; refine Q2.out.mono ?_; rintro e wd2 ⟨rfl, D2⟩; refine Hid.out ?_)
      refine hid ?_
      clear B1 Q2 z0 z1 z2 z3 z4
      obtain ⟨z0, z1, z2, z3, z4, _⟩ := blk5 D2.out (.tail _ (.head _))
      obtain ⟨va2, wa2, hr2, B2⟩ := AP.out _ _ (Lib.decDigits m) _ _ _ HXB D2 (by simp)
      have R2 := hid hr2
      clear hr2
      go_wp2_with (at_builtin; refine wpList_append_run rfl _ _ 46 rfl _ _ _ _ rfl rfl R2.out ?_; refine Hid.out ?_)
      refine hid ?_
      clear D2 R2 z0 z1 z2 z3 z4
      obtain ⟨z0, z1, z2, z3, z4, _⟩ := blk5 B2.out (.tail _ (.head _))
      go_wp2
      go_ret2
      have e9 : OW = NM :: flds nm tx n m [78, 75, 77] := (by rw [EW.out, ← HLT.out]; rfl)
      exact ⟨_, rfl, by rw [e9]; exact B2.out.del⟩
    · obtain ⟨va0, wa0, hr0, B0⟩ := AP.out _ _ nm _ _ _ HX1 A3 (by simp)
      have R0 := hid hr0
      clear hr0
      go_wp2_with (at_builtin; refine wpList_append_run rfl _ _ 46 rfl _ _ _ _ rfl rfl R0.out ?_; refine Hid.out ?_)
      refine hid ?_
      clear A3 R0 z0 z1 z2 z3 z4
      obtain ⟨z0, z1, z2, z3, z4, _⟩ := blk5 B0.out (.tail _ (.head _))
      go_wp2
      go_ret2
      have e9 : OW = NM :: flds nm tx n m [78] := (by rw [EW.out, ← HLT.out]; rfl)
      exact ⟨_, rfl, by rw [e9]; exact B0.out.del⟩
    · go_wp2
      go_ret2
      have e9 : OW = NM :: flds nm tx n m [] := (by rw [EW.out, ← HLT.out]; rfl)
      exact ⟨_, rfl, by rw [e9]; exact A3.out.del⟩
end Go.Proofs.YtblojlaifnmimaaGreatDoor

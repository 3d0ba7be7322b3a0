import Derived.Test.YthoppemjfdnibaaGreatDoorJ30
import Derived.Test.YthoppemjfdnibaaGreatDoorMail35
namespace Go.Proofs.YthoppemjfdnibaaGreatDoor
open Go.RowKit
set_option linter.unusedVariables false

theorem shs_like (f b : Int) : ∀ (l1 l2 : List Sh) (p : Int), l1.length = l2.length → (∀ (i : Nat) (s s' : Sh), l2[i]? = some s → l1[i]? = some s' → s'.n = s.n ∧ s'.a = s.a ∧ s'.dl = s.dl) → shsB f b p l1 = shsB f b p l2
  | [], [], p, _, _ => rfl
  | x :: l1, y :: l2, p, hl, h => by
    obtain ⟨e1, e2, e3⟩ := h 0 y x rfl rfl
    have ih := shs_like f b l1 l2 y.n (by simpa using hl) (fun i s s' h1 h2 => h (i + 1) s s' (by simpa using h1) (by simpa using h2))
    unfold shsB
    rw [e1, e2, e3, ih]
  | [], y :: l2, p, hl, _ => by simp at hl
  | x :: l1, [], p, hl, _ => by simp at hl
/-- Check tells the same of a message that was lent. -/
theorem chk_lt {w : World} {m m' : Ms} {li : List ByteArray} {le lx : List Ent} {ls ls' : List Sh} {ld : List (List UInt8)} (n : Int) (hd : ls.length = ld.length) (h : Lt w m m' li le ls ls' lx ld) :
    chkM n m' (fldE m'.k.toNat m'.h (m'.may li le ls' lx) m'.nil) = chkM n m (fldE m.k.toNat m.h (m.may li le ls lx) m.nil) := by
  have hs : shsB m.cf m.cb (-1) ls' = shsB m.cf m.cb (-1) ls := shs_like _ _ _ _ _ h.sl.1 (fun i s s' h1 h2 => by
    have hi := (List.getElem?_eq_some_iff.1 h1).1
    obtain ⟨p1, p2, p3, _⟩ := h.sl.2 i s s' _ h1 h2 (List.getElem?_eq_getElem (by omega))
    exact ⟨p1, p2, p3⟩)
  have hcg : cgB m.cf m.cb ls' lx = cgB m.cf m.cb ls lx := by unfold cgB; rw [hs]
  have hm : ∀ r, m'.may li le ls' lx r = m.may li le ls lx r := by
    intro r
    have e : m'.may li le ls' lx r = ({ m with ra := m'.ra, rp := m'.rp, ea := m'.ea, ep := m'.ep, sa := m'.sa, sp := m'.sp, xa := m'.xa, xp := m'.xp } : Ms).may li le ls' lx r := congrArg (fun z : Ms => z.may li le ls' lx r) h.eq
    rw [e]
    unfold Ms.may Ms.oB Ms.eB
    dsimp only
    rw [hcg]
  have hn : ∀ r, m'.nil r = m.nil r := by
    intro r
    have e : m'.nil r = ({ m with ra := m'.ra, rp := m'.rp, ea := m'.ea, ep := m'.ep, sa := m'.sa, sp := m'.sp, xa := m'.xa, xp := m'.xp } : Ms).nil r := congrArg (fun z : Ms => z.nil r) h.eq
    rw [e]
    rfl
  have ek : m'.k = m.k := (congrArg Ms.k h.eq).trans rfl
  have eh : m'.h = m.h := (congrArg Ms.h h.eq).trans rfl
  rw [ek, eh, funext hm, funext hn]
  generalize fldE m.k.toNat m.h (m.may li le ls lx) m.nil = E
  have e : chkM n m' E = chkM n ({ m with ra := m'.ra, rp := m'.rp, ea := m'.ea, ep := m'.ep, sa := m'.sa, sp := m'.sp, xa := m'.xa, xp := m'.xp } : Ms) E := congrArg (fun z : Ms => chkM n z E) h.eq
  rw [e]
  rfl
set_option maxRecDepth 1000000 in
/-- The program's Check of any message, among any n. -/
theorem progCheck_all {w : World} (n : Int) (hn : -9223372036854775808 ≤ n) (hn2 : n ≤ 9223372036854775807) (m : Ms) {li : List ByteArray} {le lx : List Ent} {ls : List Sh} (hT : Tab w) (hF : Fld w) (hl : Ml w m li le ls lx) :
    Calls Tryz.prog 15 #[.int .i64 n, m.V] w fun e w' => e = .returned (.int .i64 (chkM n m (fldE m.k.toNat m.h (m.may li le ls lx) m.nil))) ∧ Below w.heap.size w w' := by
  by_cases h : -9223372036854775808 < n
  · exact progCheck_any n h hn2 m hT hF hl
  · have hf : ¬ (n = 3 ∨ n = 5 ∨ n = 7) := by omega
    have F : chkM n m (fldE m.k.toNat m.h (m.may li le ls lx) m.nil) = 1 := by unfold chkM; rw [if_pos hf]
    rw [F]
    have C31 : Hid (∀ W : World, Calls Tryz.prog 31 #[.int .i64 n] W fun e w' => e = .returned (.bool false) ∧ w' = W) := hid (fun W => by have := fleet_any (w := W) n; rw [decide_eq_false hf] at this; exact this)
    have B0 := hid (ba w (.cells m.cells.toArray 34))
    clear hf F hT hl hF h hn hn2
    go_enter Tryz.func15, Tryz.ntmps15
    go_wp2_with fail
    refine (C31.out _).mono ?_
    rintro e w1 ⟨rfl, hw1⟩
    have B1 : Hid (Below w.heap.size w w1) := hid (by rw [hw1]; exact B0.out)
    clear hw1 C31
    go_wp2
    go_ret
    exact ⟨rfl, B1.out⟩
set_option maxHeartbeats 6400000 in
set_option maxRecDepth 1000000 in
/-- THE LAW: Check of any message. -/
theorem checks_any {w : World} (hT : Tab w) (hF : Fld w) (n : Int) (hn : -9223372036854775808 ≤ n) (hn2 : n ≤ 9223372036854775807) (m : Ms) {li : List ByteArray} {le lx : List Ent} {ls : List Sh} {ld : List (List UInt8)} (hl : Ml w m li le ls lx) (hd : ShD w ls ld) (hI : (li.length + 1) * 16 ≤ 140737488355328) (hE : (le.length + 1) * 72 ≤ 140737488355328) (hX : (lx.length + 1) * 72 ≤ 140737488355328) (hS : (ls.length + 1) * 40 ≤ 140737488355328) (hB : ∀ l ∈ ld, l.length ≤ 140737488355000) :
    Calls Tryz.prog 4 #[.int .i64 n, .agg m.cells.toArray] w fun e w' => e = .returned (.bool true) ∧ Below w.heap.size w w' := by
  obtain ⟨r, hr⟩ : ∃ r, Hid (r = chkM n m (fldE m.k.toNat m.h (m.may li le ls lx) m.nil)) := ⟨_, hid rfl⟩
  have C9 : Hid (∀ W, Below w.heap.size w W → Calls Tryz.prog 9 #[] W fun e w' => e = .returned (.bool true) ∧ Below W.heap.size W w') := hid (fun W hW => shown_any (hT.below hW) (hF.below hW))
  have C14 : Hid (∀ W, Below w.heap.size w W → Calls Tryz.prog 14 #[.agg m.cells.toArray] W fun e w' => ∃ m' ls', e = .returned (.agg m'.cells.toArray) ∧ Below W.heap.size W w' ∧ Lt w' m m' li le ls ls' lx ld) := hid (fun W hW => lent14 m (hl.later hW) (hd.later hW) hI hE hX hS hB)
  have C15 : Hid (∀ W m' ls', Below w.heap.size w W → Lt W m m' li le ls ls' lx ld → Calls Tryz.prog 15 #[.int .i64 n, .agg m'.cells.toArray] W fun e w' => e = .returned (.int .i64 r) ∧ Below W.heap.size W w') := hid (fun W m' ls' hW ht => by
    have := progCheck_all n hn hn2 m' (hT.below hW) (hF.below hW) (ht.ml (hl.later hW))
    rw [chk_lt n hd.1 ht, ← hr.out] at this
    exact this)
  have C16 : Hid (∀ W, Below w.heap.size w W → Calls Tryz.prog 16 #[.int .i64 n, .agg m.cells.toArray] W fun e w' => e = .returned (.int .i64 r) ∧ Below W.heap.size W w') := hid (fun W hW => by
    have := docCheck_any n m (hT.below hW) (hl.later hW)
    rw [← hr.out] at this
    exact this)
  have C17 : Hid (∀ W m' ls', Below w.heap.size w W → Lt W m m' li le ls ls' lx ld → Calls Tryz.prog 17 #[.agg m'.cells.toArray, .agg m.cells.toArray] W fun e w' => e = .returned (.bool true) ∧ Below W.heap.size W w') := hid (fun W m' ls' hW ht => still17 (hl.later hW) (hd.later hW) ht hI hE hX hS hB)
  clear hr hT hF hn hn2 hl hd hI hE hX hS hB
  have A0 := hid ((All.came w).addBlk m.cells 34)
  obtain ⟨b1, hb1⟩ : ∃ b, Hid (b = w.heap.size) := ⟨_, hid rfl⟩
  rw [← hb1.out] at A0
  have J34 : Hid ((Tryz.prog.info? 34).map (·.size) = some m.cells.toArray.size) := hid (show (Tryz.prog.info? 34).map (·.size) = some 23 by kernel_rfl)
  obtain ⟨PD, hPD⟩ : ∃ PD, Hid (PD = m.cells.toArray) := ⟨_, hid rfl⟩
  rw [← hPD.out] at A0 J34 C14 C16 C17 ⊢
  have HP : Hid (∀ W cs, All cs W → blkC b1 m.cells 34 ∈ cs → W.heap[b1]? = some (.cells PD 34 (0, 0))) := hid (fun W cs hW hm => by rw [hPD.out]; exact hW.blk hm)
  have hrr : (r == r) = true := by simp
  go_enter Tryz.func4, Tryz.ntmps4
  go_upto_region 1 with fail
  simp only [← hb1.out]
  generalize w.alloc (.cells PD 34) = w1 at A0 ⊢
  go_wp2_with fail
  refine (C9.out _ (A0.out.into (by simp))).mono ?_
  rintro e w2 ⟨rfl, BB⟩
  have A2 := hid (A0.out.later BB)
  clear BB A0 C9
  have H2 := hid (HP.out _ _ A2.out (by simp))
  go_wp2_with (refine wpList_load_row rfl 34 _ rfl b1 rfl 34 PD (0, 0) _ H2.out Tryz.underlying34 rfl J34.out ?_)
  refine (C14.out _ (A2.out.into (by simp))).mono ?_
  rintro e w3 ⟨m', ls', rfl, BB, ht⟩
  have T3 := hid ht
  have A3 := hid (A2.out.later BB)
  clear BB A2 C14 H2 ht
  have I34 : Hid ((Tryz.prog.info? 34).map (·.size) = some m'.cells.toArray.size) := hid (show (Tryz.prog.info? 34).map (·.size) = some 23 by kernel_rfl)
  have O34 : Hid (m'.cells.toArray.all (·.oneCell') = true) := hid (by simp [Ms.cells, Value.oneCell'])
  have Z34 : Hid (((#[.int .i64 0, .int .i64 0, .int .i64 0, .int .i64 0, .int .i64 0, .int .i64 0, .int .i64 0, .int .i64 0, .int .i64 0, .bool false, .int .i64 0, .string ⟨#[]⟩, .string ⟨#[]⟩, .int .i64 0, .int .i64 0, .int .i64 0, .int .i64 0, .slice none 0 0, .slice none 0 0, .int .i64 0, .int .i64 0, .slice none 0 0, .slice none 0 0]) : Array Value).size = m'.cells.toArray.size) := hid rfl
  obtain ⟨K, hK⟩ : ∃ K, Hid (K = w3.heap.size) := ⟨_, hid rfl⟩
  have A4 := hid (A3.out.addBlk m'.cells 34)
  have eK : Hid ((w3.alloc (.cells #[.int .i64 0, .int .i64 0, .int .i64 0, .int .i64 0, .int .i64 0, .int .i64 0, .int .i64 0, .int .i64 0, .int .i64 0, .bool false, .int .i64 0, .string ⟨#[]⟩, .string ⟨#[]⟩, .int .i64 0, .int .i64 0, .int .i64 0, .int .i64 0, .slice none 0 0, .slice none 0 0, .int .i64 0, .int .i64 0, .slice none 0 0, .slice none 0 0] 34)).setRow K m'.cells.toArray = w3.alloc (.cells m'.cells.toArray 34)) := hid (by rw [hK.out]; exact World.setRow_alloc_new _ _ _ _)
  have hKn : Hid ((w3.alloc (.cells #[.int .i64 0, .int .i64 0, .int .i64 0, .int .i64 0, .int .i64 0, .int .i64 0, .int .i64 0, .int .i64 0, .int .i64 0, .bool false, .int .i64 0, .string ⟨#[]⟩, .string ⟨#[]⟩, .int .i64 0, .int .i64 0, .int .i64 0, .int .i64 0, .slice none 0 0, .slice none 0 0, .int .i64 0, .int .i64 0, .slice none 0 0, .slice none 0 0] 34)).heap[K]? = some (.cells #[.int .i64 0, .int .i64 0, .int .i64 0, .int .i64 0, .int .i64 0, .int .i64 0, .int .i64 0, .int .i64 0, .int .i64 0, .bool false, .int .i64 0, .string ⟨#[]⟩, .string ⟨#[]⟩, .int .i64 0, .int .i64 0, .int .i64 0, .int .i64 0, .slice none 0 0, .slice none 0 0, .int .i64 0, .int .i64 0, .slice none 0 0, .slice none 0 0] 34 (0, 0))) := hid (by rw [hK.out]; exact heap_alloc_new _ _)
  have T4 : Hid (Lt (w3.alloc (.cells m'.cells.toArray 34)) m m' li le ls ls' lx ld) := hid (T3.out.later (ba _ _))
  rw [← hK.out] at A4
  obtain ⟨PC, hPC⟩ : ∃ PC, Hid (PC = m'.cells.toArray) := ⟨_, hid rfl⟩
  have D15 : Hid (∀ W, Below w.heap.size w W → Lt W m m' li le ls ls' lx ld → Calls Tryz.prog 15 #[.int .i64 n, .agg PC] W fun e w' => e = .returned (.int .i64 r) ∧ Below W.heap.size W w') := hid (fun W h1 h2 => by rw [hPC.out]; exact C15.out W m' ls' h1 h2)
  have D17 : Hid (∀ W, Below w.heap.size w W → Lt W m m' li le ls ls' lx ld → Calls Tryz.prog 17 #[.agg PC, .agg PD] W fun e w' => e = .returned (.bool true) ∧ Below W.heap.size W w') := hid (fun W h1 h2 => by rw [hPC.out]; exact C17.out W m' ls' h1 h2)
  have HQ : Hid (∀ W cs, All cs W → blkC K m'.cells 34 ∈ cs → W.heap[K]? = some (.cells PC 34 (0, 0))) := hid (fun W cs hW hm => by rw [hPC.out]; exact hW.blk hm)
  rw [← hPC.out] at A4 eK T4 I34 O34 Z34
  rw [← hPC.out]
  clear C15 C17 T3 A3
  go_upto_region 4 with (refine wpList_store_row rfl 34 _ _ rfl K PC (by rw [hK.out]; rfl) rfl 34 _ hKn.out I34.out Z34.out O34.out ?_)
  rw [eK.out, ← hK.out]
  generalize w3.alloc (.cells PC 34) = w4 at A4 T4 ⊢
  clear eK hKn
  have H4 := hid (HQ.out _ _ A4.out (by simp))
  go_wp2_with (refine wpList_load_row rfl 34 _ rfl K rfl 34 PC (0, 0) _ H4.out Tryz.underlying34 rfl I34.out ?_)
  refine (D15.out _ (A4.out.into (by simp)) T4.out).mono ?_
  rintro e w5 ⟨rfl, BB⟩
  have A5 := hid (A4.out.later BB)
  have T5 := hid (T4.out.later BB)
  clear BB A4 T4 H4
  have H5 := hid (HQ.out _ _ A5.out (by simp))
  go_wp2_with (refine wpList_load_row rfl 34 _ rfl K rfl 34 PC (0, 0) _ H5.out Tryz.underlying34 rfl I34.out ?_)
  refine (D15.out _ (A5.out.into (by simp)) T5.out).mono ?_
  rintro e w6 ⟨rfl, BB⟩
  have A6 := hid (A5.out.later BB)
  have T6 := hid (T5.out.later BB)
  clear BB A5 T5 H5
  have H6 := hid (HP.out _ _ A6.out (by simp))
  go_wp2_with (refine wpList_load_row rfl 34 _ rfl b1 rfl 34 PD (0, 0) _ H6.out Tryz.underlying34 rfl J34.out ?_)
  refine (C16.out _ (A6.out.into (by simp))).mono ?_
  rintro e w7 ⟨rfl, BB⟩
  have A7 := hid (A6.out.later BB)
  have T7 := hid (T6.out.later BB)
  clear BB A6 T6 H6
  have H7 := hid (HQ.out _ _ A7.out (by simp))
  have G7 := hid (HP.out _ _ A7.out (by simp))
  go_wp2_with (first | (refine wpList_load_row_at (by rfl) 34 _ rfl K rfl 34 PC (0, 0) _ H7.out Tryz.underlying34 rfl I34.out ?_) | (refine wpList_load_row_at (by rfl) 34 _ rfl b1 rfl 34 PD (0, 0) _ G7.out Tryz.underlying34 rfl J34.out ?_) | (go_at_call 17; refine (D17.out _ (A7.out.into (by simp)) T7.out).mono ?_; rintro e w8 ⟨rfl, BB⟩; have A8 := hid (A7.out.later BB); clear BB))
  go_ret
  exact ⟨rfl, A8.out.into (by simp)⟩
end Go.Proofs.YthoppemjfdnibaaGreatDoor

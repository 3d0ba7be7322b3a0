import Derived.Test.YtdhkdniddjnigaaGreatDoorGq
import Derived.Lib.SlBytesConst
namespace Go.Proofs.YtdhkdniddjnigaaGreatDoor
open Go.RowKit
set_option linter.unusedVariables false

/-- Bytes that are read, as a part. -/
def rdC (v : Value) (l : List UInt8) : Comp := ⟨fun w => Reads w v l, v.ownBlock.toList⟩
theorem rdC_good (v : Value) (l : List UInt8) : (rdC v l).Good := fun w w' h hs hb => Reads.kept h hs.size (fun k _ hk => hb k (by simp [rdC, hk]))
/-- Constant bytes, laid. -/
theorem All.addConst {cs : List Comp} {w : World} (h : All cs w) (l : List UInt8) (fr : Nat × Nat) : All (rdC (.slice (some ⟨w.heap.size, 0, none⟩) l.length l.length) l :: cs) (w.alloc (.cells (cellsB l).toArray 5 fr)) := by
  refine h.add (Fr.below (ba w _)) (rdC_good _ _) ⟨_, _, rfl, Nat.le_refl _, Or.inr ⟨_, 0, rfl, by simp, fun j u hu => ?_⟩⟩ (fun k hk => ?_)
  · rw [Nat.zero_add, cell_at (heap_alloc_new w _)]
    simpa using hu
  · have : k = w.heap.size := by simpa [rdC, Value.ownBlock, eq_comm] using hk
    subst this
    exact ⟨Nat.le_refl _, by simp⟩
theorem rd_rdC {v : Value} {l : List UInt8} {cs : List Comp} {w : World} (h : All (rdC v l :: cs) w) : Reads w v l := h.1.2.1
def awB : List UInt8 := [115, 117, 98, 109, 105, 116, 32, 108, 105, 115, 116, 10, 104, 101, 108, 108, 111, 10]
set_option maxRecDepth 1000000 in
theorem aw_tl (p1 p2 : Nat) : (feedM 64 (gs0 (px0 3 1 p1 p2) 4 4) awB).tl = [50, 32, 114, 101, 102, 117, 115, 101, 100, 32, 50, 51, 48, 10] := by kernel_rfl
set_option maxRecDepth 1000000 in
theorem aw_ms1 (p1 p2 : Nat) : (feedM 64 (gs0 (px0 3 1 p1 p2) 4 4) awB).ms = [(feedM 64 (gs0 (px0 3 1 p1 p2) 4 4) awB).ms.getD 0 zM] := by kernel_rfl
set_option maxRecDepth 1000000 in
theorem aw_ms2 (p1 p2 : Nat) : ((feedM 64 (gs0 (px0 3 1 p1 p2) 4 4) awB).ms.getD 0 zM).k = 1 := by kernel_rfl
set_option maxRecDepth 1000000 in
theorem aw_ms3 (p1 p2 : Nat) : ((feedM 64 (gs0 (px0 3 1 p1 p2) 4 4) awB).ms.getD 0 zM).f = 1 := by kernel_rfl
theorem gs0_I {a0 id m n : Int} {p1 p2 : Nat} (h : a0 = 3 ∨ a0 = 5 ∨ a0 = 7) (h1 : 1 ≤ n) (h2 : n ≤ m) (h3 : m ≤ 1024) : GsI (gs0 (px0 a0 id p1 p2) n n) m 1 :=
  ⟨⟨fun h => (by cases h), by simp [gs0]⟩, ⟨h, Int.le_refl _, ⟨Int.le_refl _, by show (0 : Int) ≤ _; decide⟩, ⟨Int.le_refl _, by show (0 : Int) ≤ _; decide⟩, ⟨h1, h2⟩, ⟨h1, h2⟩, h3⟩, by show (0 : Int) ≤ 1; decide, Int.le_refl _, fun q hq => (by cases hq), by simp [gs0]⟩
set_option maxHeartbeats 3200000 in
set_option maxRecDepth 1000000 in
/-- A gate takes a line, says its request and tells why another line is refused. -/
theorem awake_any {cs : List Comp} {w : World} (A : All cs w) (E : Evs cs) : Calls Tryz.prog 6 #[] w fun e w' => e = .returned (.bool true) ∧ All cs w' := by
  have HE := hid E
  have C7 : Hid (∀ W, All cs W → Calls Tryz.prog 7 #[cfgV 3 2 2 3 16 64 4 4 16 4, .int .i64 1] W fun e w' => ∃ G P p1 p2, e = .returned (.tuple #[.pointer (some ⟨G, 0, none⟩), .int .i64 0]) ∧ Gt G P (gs0 (px0 3 1 p1 p2) 4 4) [] 4 64 cs w') := hid (fun W hW => New_gt hW 3 2 2 3 16 64 4 4 16 4 1 (by decide +kernel) (by decide) (by decide))
  have C13 : Hid (∀ W : World, Calls Tryz.prog 13 #[] W fun e w' => e = .returned (cfgV 3 2 2 3 16 64 4 4 16 4) ∧ w' = W.alloc (cfgB 3 2 2 3 16 64 4 4 16 4)) := hid (fun W => config_any)
  have A0 := hid A
  clear A E
  go_enter Tryz.func6, Tryz.ntmps6
  go_wp2_with fail
  refine (C13.out _).mono ?_
  rintro e w1 ⟨rfl, hw1⟩
  have A1 : Hid (All cs w1) := hid (by rw [hw1]; exact A0.out.alloc _)
  clear hw1 A0 C13
  go_wp2_with fail
  refine (C7.out _ A1.out).mono ?_
  rintro e w2 ⟨G, P, p1, p2, rfl, hG⟩
  have G2 := hid hG
  clear hG A1 C7
  go_upto_region 4 with fail
  have G3 : Hid (Gt G P (gs0 (px0 3 1 p1 p2) 4 4) [] 4 64 (rdC (.slice (some ⟨w2.heap.size, 0, none⟩) 18 18) awB :: cs) (w2.alloc (.cells (cellsB awB).toArray 5 (18, 19)))) := hid (by
    obtain ⟨t, u, v, hA⟩ := G2.out
    exact ⟨t, u, v, (All.addConst hA awB (18, 19)).perm List.perm_middle.symm⟩)
  have FC := hid (feed_gt G3.out (HE.out.cons _) (gs0_I (Or.inl rfl) (by decide) (by decide) (by decide)) (fun W hW => rd_rdC hW) (by decide) (by decide) (by decide))
  have e1 := aw_ms1 p1 p2
  have e2 := aw_ms2 p1 p2
  have e3 := aw_ms3 p1 p2
  rw [aw_tl, e1, List.nil_append] at FC
  generalize (feedM 64 (gs0 (px0 3 1 p1 p2) 4 4) awB).ms.getD 0 zM = xm at *
  generalize (feedM 64 (gs0 (px0 3 1 p1 p2) 4 4) awB).s = s3 at *
  clear e1 G2 G3
  have eaw : (cellsB awB).toArray = #[.int .u8 115, .int .u8 117, .int .u8 98, .int .u8 109, .int .u8 105, .int .u8 116, .int .u8 32, .int .u8 108, .int .u8 105, .int .u8 115, .int .u8 116, .int .u8 10, .int .u8 104, .int .u8 101, .int .u8 108, .int .u8 108, .int .u8 111, .int .u8 10] := rfl
  rw [eaw] at FC
  have cvid := fun (w : World) (C : Array Value) (n c : Nat) => Lib.run_convert_bytes_const (P := Tryz.prog) w 40 5 C n c Tryz.underlying40 Tryz.underlying5
  go_upto_region 5 with (go_at_call 14; refine FC.out.mono ?_; rintro e w4 ⟨v', rfl, hG⟩; have G4 := hid hG; clear hG)
  obtain ⟨av, cv, rfl⟩ : ∃ av cv, v' = .slice av 1 cv := by
    have hM : w4.ownsRow 0 51 23 v' 1 ([xm].flatMap Ms.cells) := G4.out.rest.1.2.1
    exact owns_form hM
  obtain ⟨g, rfl, hg, m0⟩ := row_at (w := w4) (ao := av) (k := 0) (u := .int .i64 xm.k) G4.out.rest.1.2.1 rfl
  obtain ⟨g', eg, _, m1⟩ := row_at (w := w4) (ao := some ⟨g, 0, none⟩) (k := 1) (u := .int .i64 xm.f) G4.out.rest.1.2.1 rfl
  simp only [Option.some.injEq, Addr.mk.injEq, and_true] at eg
  subst eg
  rw [e2] at m0
  rw [e3] at m1
  have OC := hid (Out_gt G4.out)
  clear FC e2 e3 eaw
  go_wp2_with (go_at_call 16; refine OC.out.mono ?_; rintro e w5 ⟨vo, rfl, hG5⟩; obtain ⟨ao, co, rfl⟩ := owns_form hG5.rest.1.2.1; have cs5 := conv_string (reads_own hG5.rest); have A5 := hid hG5.rest.tail.tail.tail; clear hG5)
  go_ret
  exact ⟨rfl, A5.out⟩
end Go.Proofs.YtdhkdniddjnigaaGreatDoor

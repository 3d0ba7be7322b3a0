import Derived.Test.YtfeppannfcbakaaGreatDoorJ17
import Derived.Test.YtfeppannfcbakaaGreatDoorEv26
namespace Go.Proofs.YtfeppannfcbakaaGreatDoor
open Go.RowKit
set_option linter.unusedVariables false
set_option maxRecDepth 100000

theorem Rt_nil (W : World) : Rt W (.slice none 0 0) [] := ⟨none, 0, rfl, Nat.le_refl _, Or.inl rfl⟩
theorem BRd_nil (W : World) : BRd W (.slice none 0 0) [] := ⟨none, 0, rfl, Nat.le_refl _, Or.inl rfl⟩
theorem BRd.of_owns {w : World} {base : Nat} {s : Value} {l : List UInt8} (h : w.ownsRow base 5 1 s (cellsB l).length (cellsB l)) : BRd w s l := by
  obtain ⟨ao, c, rfl⟩ := owns_form h
  have hl := owns_len h
  have e : (cellsB l).length = l.length := by simp [cellsB]
  refine ⟨ao, c, by rw [e], by rw [← e]; exact hl.2, ?_⟩
  by_cases h0 : l = []
  · exact Or.inl h0
  · have h1 : 0 < l.length := List.length_pos_iff.2 h0
    obtain ⟨g, rfl, hc, _⟩ := owns_at h (k := 0) (u := .int .u8 (l[0].toNat : Int)) (by simp [cellsB, h1])
    refine Or.inr ⟨g, 0, rfl, World.block_lt_of_cell? w _ hc, fun j b hj => ?_⟩
    obtain ⟨g', e', hc', _⟩ := owns_at h (k := j) (u := .int .u8 (b.toNat : Int)) (by simp [cellsB, hj])
    simp only [Option.some.injEq, Addr.mk.injEq, and_true] at e'
    subst e'
    simpa using hc'
theorem brd_mem {v : Value} {l : List UInt8} {cs : List Comp} {w : World} (h : All cs w) (hm : ownC 5 v (cellsB l) ∈ cs) : BRd w v l := BRd.of_owns (base := 0) (h.mem hm).2.1
theorem slL_of : ∀ {q : List Ct} {vs : List Value} {cs : List Comp} {W : World}, All (ownL q vs ++ cs) W → SlL q vs
  | [], vs, cs, W, h => by cases vs <;> trivial
  | c :: q, [], cs, W, h => trivial
  | c :: q, v :: vs, cs, W, h => by
    rw [ownL, List.append_assoc] at h
    refine ⟨?_, slL_of (dropA h)⟩
    cases c with
    | dat d =>
      obtain ⟨a, n, e⟩ := (brd_mem h (l := d) (v := v) (by simp [ownOf])).form
      exact ⟨a, n, e⟩
    | res a b l =>
      obtain ⟨a, n, e⟩ := (rt_mem h (l := l) (v := v) (by simp [ownOf])).form
      exact ⟨a, n, e⟩
    | none => trivial
    | int _ => trivial
    | bool _ => trivial
    | op _ => trivial
/-- What Line writes, ReadLine reads back. -/
theorem ReadBack_any {e : Ev} {items : Ws} {data : List UInt8} {cs : List Comp} {w : World} (hE : ∀ W, All cs W → En W) (h : e.err items = 0) (hR : e.Rg) (hi : items.length = e.rik) (hd : data.length = e.dik) (A : All cs w) :
    Calls Tryz.prog 14 #[.string ⟨(e.line items data).toArray⟩] w fun r w' => ∃ rv dv os, r = .returned (.tuple #[.agg (e.cells2 rv dv).toArray, .int .i64 0]) ∧ All (os ++ cs) w' ∧ ∀ W, All (os ++ cs) W → Rt W rv items ∧ BRd W dv data := by
  obtain ⟨b1, b2, b3, b4, b5, b6⟩ := re_back h hR hd
  refine (ReadLine_any hE (by omega) ⟨by have := splitW_size (e.line items data); omega, fun y hy => Nat.le_trans (split_wl y hy) (by decide)⟩ A).mono ?_
  rintro r w' ⟨EC, rfl, _, hok⟩
  obtain ⟨x, r', k, vs, e1, e2, e3, e4, hA⟩ := hok b1
  rw [b3] at e1
  injection e1 with ex er
  subst ex er
  rw [b4] at e2
  obtain rfl := Option.some.inj e2
  rw [b5] at e3 e4 hA
  rw [b6] at e3 e4 hA
  obtain ⟨hF, hX⟩ := err_zero h
  obtain ⟨rv, dv, p1, p2⟩ := put_back hF hX hi hd (vs := vs) (by rw [e3]; simp)
  rw [b1, e4, p1]
  refine ⟨rv, dv, _, rfl, hA, fun W hW => ?_⟩
  rcases p2 with ⟨q, rfl, rfl⟩ | ⟨q, rfl, rfl⟩ | ⟨q, rfl, rfl, rfl, rfl⟩
  · rw [q] at hW
    exact ⟨rt_mem hW (by simp), BRd_nil W⟩
  · rw [q] at hW
    exact ⟨Rt_nil W, brd_mem hW (by simp)⟩
  · exact ⟨Rt_nil W, BRd_nil W⟩
/-- What ReadLine reads is an event in form, with the line's words. -/
theorem ReadForm_any {l : List UInt8} {cs : List Comp} {w : World} (hE : ∀ W, All cs W → En W) (hl : l.length ≤ 140737488355328) (A : All cs w) :
    Calls Tryz.prog 14 #[.string ⟨l.toArray⟩] w fun r w' => ∃ EC : List Value, r = .returned (.tuple #[.agg EC.toArray, .int .i64 (rlErr l)]) ∧ (rlErr l ≠ 0 → EC = (Ev.zero 0).cells ∧ All cs w') ∧ (rlErr l = 0 → ∃ (e : Ev) (items : Ws) (data : List UInt8) (os : List Comp), EC = e.cells ∧ e.err items = 0 ∧ e.Rg ∧ items.length = e.rik ∧ data.length = e.dik ∧ items.length ≤ 8 ∧ e.line items data = joinW (splitW l).ws ∧ All (os ++ cs) w' ∧ ∀ W, All (os ++ cs) W → Rt W (.slice e.ria e.rik e.ric) items ∧ BRd W (.slice e.dia e.dik e.dic) data) := by
  refine (ReadLine_any hE hl ⟨by have := splitW_size l; omega, fun y hy => Nat.le_trans (split_wl y hy) (by decide)⟩ A).mono ?_
  rintro r w' ⟨EC, rfl, hbad, hok⟩
  refine ⟨EC, rfl, hbad, fun h0 => ?_⟩
  obtain ⟨x, r', k, vs, e1, e2, e3, e4, hA⟩ := hok h0
  obtain ⟨z1, z2⟩ := rl_zero h0
  rw [e1] at z2
  obtain ⟨y1, y2⟩ := re_zero z2 e2
  obtain ⟨k1, k2, k3⟩ := ev_ok e2
  obtain ⟨e, items, data, f1, f2, f3, f4, f5, f6, f7, f8, f9, f10⟩ := (read_ev (vs := vs) ⟨by omega, by omega⟩ y1 y2 (by rw [e3]; exact rdsL_len y1) (slL_of hA)).ev
  refine ⟨e, items, data, _, by rw [e4, f1], f4, f5, f6, f7, f8, ?_, hA, fun W hW => ?_⟩
  · unfold Ev.line
    rw [if_neg (by simp [f4]), words_sub, f2, f9, e1]
    simp only [Int.toNat_natCast]
    rw [k3]
  · rcases f10 with ⟨q, q1, q2, rfl⟩ | ⟨q, q1, q2, rfl⟩ | ⟨q, q1, q2, q3, q4, rfl, rfl⟩
    · rw [q] at hW
      refine ⟨rt_mem hW (by simp), ?_⟩
      rw [q1, q2, ← f7]
      exact BRd_nil W
    · rw [q] at hW
      refine ⟨?_, brd_mem hW (by simp)⟩
      rw [q1, q2, ← f6]
      exact Rt_nil W
    · refine ⟨?_, ?_⟩
      · rw [q1, q2, ← f6]
        exact Rt_nil W
      · rw [q3, q4, ← f7]
        exact BRd_nil W
end Go.Proofs.YtfeppannfcbakaaGreatDoor

namespace Go.Proofs.YtfeppannfcbakaaGreatDoor
open Go.RowKit
set_option linter.unusedVariables false
set_option maxRecDepth 100000

/-- The document's first two examples. -/
def exA : Ev := { Ev.zero 6 with a := 1, nm := 7, fr := true, en := 3, pk := 3, pnm := [113], ptx := [97, 32, 98] }
def exB : Ev := { Ev.zero 11 with sn := 8, sa := 1, dik := 5, dic := 5 }
def daB : List UInt8 := [1, 1, 0, 0, 0]
set_option maxRecDepth 1000000 in
theorem exA_ok : exA.err [] = 0 ∧ exA.line [] [] = [114, 97, 110, 32, 49, 32, 55, 32, 102, 114, 101, 115, 104, 32, 48, 32, 51, 32, 112, 117, 115, 104, 32, 113, 32, 34, 97, 32, 98, 34, 32, 100, 111, 110, 101, 32, 48, 32, 48] := by
  refine ⟨?_, ?_⟩ <;> kernel_rfl
set_option maxRecDepth 1000000 in
theorem exB_ok : exB.err [] = 0 ∧ exB.line [] daB = [115, 104, 101, 101, 116, 32, 48, 32, 56, 32, 49, 32, 48, 49, 48, 49, 48, 48, 48, 48, 48, 48] := by
  refine ⟨?_, ?_⟩ <;> kernel_rfl
theorem exA_rg : exA.Rg := by constructor <;> (simp only [exA, Ev.zero]; decide)
theorem exB_rg : exB.Rg := by constructor <;> (simp only [exB, Ev.zero]; decide)
theorem brd_blk {g : Nat} {d : List UInt8} {cs : List Comp} {W : World} (h : All cs W) (hm : blkC g (cellsB d) 5 ∈ cs) : BRd W (.slice (some ⟨g, 0, none⟩) d.length d.length) d := by
  refine ⟨_, _, rfl, Nat.le_refl _, Or.inr ⟨g, 0, rfl, (h.mem hm).2.2 g (by simp [blkC]), fun j b hj => ?_⟩⟩
  rw [Nat.zero_add]
  exact cell_in h hm (by simp [cellsB, hj])
theorem Line_ev {e : Ev} {items : Ws} {data : List UInt8} {cs : List Comp} {w : World} (hE : ∀ W, All cs W → En W) (hR : e.Rg) (hd : data.length = e.dik) (hil : items.length ≤ 140737488355328) (hI : ∀ W, All cs W → Rt W (.slice e.ria e.rik e.ric) items) (hD : ∀ W, All cs W → BRd W (.slice e.dia e.dik e.dic) data) (A : All cs w) :
    Calls Tryz.prog 11 #[.agg e.cells.toArray] w fun r w' => r = .returned (.tuple #[.string ⟨(e.line items data).toArray⟩, .int .i64 (e.err items)]) ∧ All cs w' :=
  Line_any e hE (fun hF => tp_of hF hR hd hil hI hD) (fun t _ => wdT_len _ _ _ t) (fun h => lenJ_words h hR hd) A
theorem cells2_self (e : Ev) : e.cells2 (.slice e.ria e.rik e.ric) (.slice e.dia e.dik e.dic) = e.cells := rfl
set_option maxHeartbeats 6400000 in
set_option maxRecDepth 1000000 in
theorem shown_any {cs : List Comp} {w : World} (hE : ∀ W, All cs W → En W) (A : All cs w) : Calls Tryz.prog 9 #[] w fun r w' => r = .returned (.bool true) ∧ All cs w' := by
  have CA := hid (Line_ev (e := exA) (items := []) (data := []) hE exA_rg rfl (by simp) (fun W _ => Rt_nil W) (fun W _ => BRd_nil W) A)
  rw [exA_ok.1, exA_ok.2] at CA
  have CB : Hid (∀ W, All cs W → Calls Tryz.prog 14 #[.string ⟨#[115, 104, 101, 101, 116, 32, 48, 32, 56, 32, 49, 32, 48, 49, 48, 49, 48, 48, 48, 48, 48, 48]⟩] W fun r w' => ∃ (ra : Option Addr) (rn rc : Nat) (da : Option Addr) (dn dc : Nat) (os : List Comp), r = .returned (.tuple #[.agg (exB.cells2 (.slice ra rn rc) (.slice da dn dc)).toArray, .int .i64 0]) ∧ All (os ++ cs) w' ∧ ∀ W, All (os ++ cs) W → Rt W (.slice ra rn rc) [] ∧ BRd W (.slice da dn dc) daB) := hid (fun W hW => by
    have h := ReadBack_any (e := exB) (items := []) (data := daB) hE exB_ok.1 exB_rg rfl rfl hW
    rw [exB_ok.2] at h
    refine h.mono ?_
    rintro r w' ⟨rv, dv, os, hr, hA, hf⟩
    obtain ⟨ra, rc, e1⟩ := (hf _ hA).1.form
    obtain ⟨da, dc, e2⟩ := (hf _ hA).2.form
    subst e1 e2
    exact ⟨_, _, _, _, _, _, os, hr, hA, hf⟩)
  have BA : Hid (Tryz.prog.built 36 [(0, .int .i64 6), (1, .int .i64 1), (3, .int .i64 7), (6, .bool true), (8, .agg #[.int .i64 0, .int .i64 3, .int .i64 3, .string ⟨#[113]⟩, .string ⟨#[97, 32, 98]⟩, .int .i64 0, .int .i64 0])] = some exA.cells.toArray) := hid (by kernel_rfl)
  have CC : Hid (∀ (ra : Option Addr) (rn rc : Nat) (da : Option Addr) (dn dc : Nat) (os : List Comp) (g G : Nat) W, (∀ W, All (os ++ cs) W → Rt W (.slice ra rn rc) [] ∧ BRd W (.slice da dn dc) daB) → All (blkC g (cellsB daB) 5 :: blkC G (exB.cells2 (.slice ra rn rc) (.slice da dn dc)) 36 :: (os ++ cs)) W → Calls Tryz.prog 13 #[.agg (exB.cells2 (.slice ra rn rc) (.slice da dn dc)).toArray, .agg (exB.cells2 (.slice none 0 0) (.slice (some ⟨g, 0, none⟩) 5 5)).toArray] W fun r w' => r = .returned (.bool true) ∧ All cs w') := hid (fun ra rn rc da dn dc os g G W hf hW =>
    (sameEvent_true exB hW (fun V hV => (hf V hV.tail.tail).1) (fun V _ => Rt_nil V) (fun V hV => (hf V hV.tail.tail).2) (fun V hV => brd_blk (d := daB) hV (List.mem_cons_self)) (by simp) (by decide)).mono fun r w' h => ⟨h.1, dropA h.2.tail.tail⟩)
  have I36 : Hid (∀ (ra : Option Addr) (rn rc : Nat) (da : Option Addr) (dn dc : Nat), (Tryz.prog.info? 36).map (·.size) = some (exB.cells2 (.slice ra rn rc) (.slice da dn dc)).toArray.size) := hid (fun _ _ _ _ _ _ => by kernel_rfl)
  have O36 : Hid (∀ (ra : Option Addr) (rn rc : Nat) (da : Option Addr) (dn dc : Nat), (exB.cells2 (.slice ra rn rc) (.slice da dn dc)).toArray.all (·.oneCell') = true) := hid (fun _ _ _ _ _ _ => by kernel_rfl)
  clear hE A
  go_enter Tryz.func9, Tryz.ntmps9
  go_upto_region 4 with (go_at_call 11; refine CA.out.mono ?_; rintro r w1 ⟨rfl, B1⟩; have K1 := hid B1; clear B1)
  go_upto_region 5 with (first | (go_at_call 14; refine (CB.out _ K1.out).mono ?_; rintro r w2 ⟨ra, rn, rc, da, dn, dc, os, rfl, B2, F2⟩; have K2 := hid B2; have FF := hid F2; clear B2 F2) | (refine wpList_store_row rfl 36 _ _ rfl w2.heap.size (exB.cells2 (.slice ra rn rc) (.slice da dn dc)).toArray rfl rfl 36 _ (heap_alloc_new w2 _) (I36.out ra rn rc da dn dc) rfl (O36.out ra rn rc da dn dc) ?_; rw [World.setRow_alloc_new]))
  have K3 := hid (K2.out.addBlk (exB.cells2 (.slice ra rn rc) (.slice da dn dc)) 36)
  generalize w2.alloc (.cells (exB.cells2 (.slice ra rn rc) (.slice da dn dc)).toArray 36) = w3 at *
  have HB := hid (K3.out.blk (g := w2.heap.size) (vs := exB.cells2 (.slice ra rn rc) (.slice da dn dc)) (t := 36) (List.mem_cons_self))
  have K4 := hid (K3.out.addBlk (cellsB daB) 5)
  have C4 := hid (CC.out ra rn rc da dn dc os w3.heap.size w2.heap.size _ FF.out K4.out)
  go_wp2_with (first | (refine wpList_load_row rfl 36 _ rfl w2.heap.size rfl 36 (exB.cells2 (.slice ra rn rc) (.slice da dn dc)).toArray (0, 0) _ HB.out Tryz.underlying36 rfl (I36.out ra rn rc da dn dc) ?_) | (refine wpList_step (fun K hK => ?_); rw [if_pos (by rfl)]; refine wp_load_row 36 _ rfl w2.heap.size rfl 36 (exB.cells2 (.slice ra rn rc) (.slice da dn dc)).toArray (0, 0) _ HB.out Tryz.underlying36 rfl (I36.out ra rn rc da dn dc) (hK _ _ ?_); clear hK K) | (go_at_call 13; refine C4.out.mono ?_; rintro r w5 ⟨rfl, B5⟩; have K5 := hid B5; clear B5))
  go_ret
  exact ⟨rfl, K5.out⟩
end Go.Proofs.YtfeppannfcbakaaGreatDoor

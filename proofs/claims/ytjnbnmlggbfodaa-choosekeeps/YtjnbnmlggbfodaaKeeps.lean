import Derived.Test.YtjnbnmlggbfodaaKeepsP
namespace Go.Proofs.Ytjnbnmlggbfodaa
open Go.RowKit
set_option linter.unusedVariables false

set_option maxHeartbeats 3200000 in
set_option maxRecDepth 1000000 in
theorem keeps_walk {w : World} {s p : Value} {all : List Bal} {xs : List Int} (hs : BalsAt w s all) (hl : all.length * 32 ≤ 140737488351232) (hp : IntsAt w p xs) (hxl : xs.length * 8 ≤ 140737488351232) (sz nm op : Int) : Calls Try.prog 5 #[.int .i64 sz, .int .i64 nm, .int .i64 op, s, p] w fun e w' => e = .returned (.bool true) ∧ Below w.heap.size w w' := by
  have HS := hid hs
  have HP := hid hp
  obtain ⟨ao, c, rfl⟩ := hs.form
  obtain ⟨pa, pc, rfl⟩ := hp.form
  clear hs hp
  have hxl2 := hid (show xs.length ≤ 140737488351232 by omega)
  have hl2 : all.length ≤ 140737488351232 := by omega
  have hs0 := Int.emod_nonneg sz (b := 3) (by omega)
  have hs3 := Int.emod_lt_of_pos sz (b := 3) (by omega)
  obtain ⟨f, hf⟩ : ∃ f : Nat, (am sz 3) = (f : Int) - 1 ∧ 1 ≤ f ∧ f ≤ 3 := by
    have e : am sz 3 = sz % 3 := by simp [am]
    exact ⟨(sz % 3 + 1).toNat, by rw [e]; omega, by omega, by omega⟩
  obtain ⟨hf, hf1, hf3⟩ := hf
  have C12 := hid (among_any (w := w) (i := sz) (n := 3) (by omega))
  rw [hf] at C12
  clear hf hs0 hs3 hl hxl
  obtain ⟨n, hn⟩ : ∃ n : Nat, Hid (n = 2 * f + 1) := ⟨_, hid rfl⟩
  have hn1 : 3 + 2 * ((f : Int) - 1) = (n : Int) := by have := hn.out; omega
  have hn2 : ((n : Int) - 1).tdiv 2 = (f : Int) := by
    have := hn.out
    have e : (n : Int) - 1 = 2 * (f : Int) := by omega
    rw [e]
    exact Int.mul_tdiv_cancel_left _ (by omega)
  have hw1 : IntKind.i64.wrap (2 * ((f : Int) - 1)) = 2 * ((f : Int) - 1) := by rw [IntKind.wrap_i64]; omega
  have hn7 : n ≤ 7 := by have := hn.out; omega
  have hn3 : 3 ≤ n := by have := hn.out; omega
  have HK := hid (kept hn.out hf1 hf3 nm op all xs)
  go_enter Try.func5, Try.ntmps5
  go_wp2_with fail
  refine C12.out.mono ?_
  rintro e w1 ⟨rfl, rfl⟩
  clear C12
  have A0 : Hid (All [rowB (.slice none 0 0) (bals all 0), inC w1] w1) := hid ((All.came w1).addRow0 (e := 27) (size := 4))
  go_wp2
  clear hn1 hn2 hw1
  go_loopw [13, 14, 15] (fun lv rv iv wr => ∃ i : Nat, i ≤ n ∧ iv = .int .i64 (i : Int) ∧ rv = .int .i64 (rcN all nm op i : Nat) ∧ Hid (All [rowB lv (bals all i), inC w1] wr)) (fun _ _ iv _ => n - (intOf iv).toNat)
  case atStart => exact ⟨0, by omega, rfl, rfl, A0⟩
  case round =>
    clear A0
    obtain ⟨i, hi, rfl, rfl, A0⟩ := hrel
    obtain ⟨la, lc, rfl, _⟩ := ownB_form A0.out.1.2.1
    by_cases hlt : i < n
    · have l1 : decide ((i : Int) < (n : Int)) = true := decide_eq_true (by omega)
      have l2 : (i : Int) < (n : Int) := by omega
      have hrl := rcN_le all nm op i
      have RN := hid (rcN_next all nm op i)
      have C13 := hid (fun w => rc13 (w := w) (balI all i) nm op)
      have A1 := hid (A0.out.addBlk (Bal.cells ⟨(i : Int), 0, 0, 0⟩) 27)
      have hbl := bals_len all i
      rw [hbl] at A0 A1 ⊢
      have HBN := hid (bals_next all i)
      have HBL := hid hbl
      generalize rcN all nm op i = rn at *
      generalize bals all i = bs at *
      clear hbl A0
      go_upto_if 40 with fail
      have eW : wr.alloc (.cells #[.int .i64 (i : Int), .int .i64 0, .int .i64 0, .int .i64 0] 27) = wr.alloc (.cells (Bal.cells ⟨(i : Int), 0, 0, 0⟩).toArray 27) := rfl
      rw [eW]
      clear eW
      generalize hw4 : wr.alloc (.cells (Bal.cells ⟨(i : Int), 0, 0, 0⟩).toArray 27) = w4 at *
      generalize hKK : wr.heap.size = K at *
      clear hw4 hKK
      go_cut [] (fun wx => ∃ wy : World, wy = wx ∧ Hid (All [blkC K (balI all i).cells 27, rowB (.slice la i lc) bs, inC w1] wy))
      case first =>
        by_cases hia : i < all.length
        · obtain ⟨y, hy⟩ : ∃ y, Hid (all[i]? = some y) := ⟨_, hid (List.getElem?_eq_getElem hia)⟩
          have EB : Hid (balI all i = ⟨(i : Int), y.nm, y.op, y.cm⟩) := hid (by unfold balI; rw [hy.out])
          obtain ⟨g, o, rfl, hg, y0, y1, y2, y3⟩ := HS.out.at (A1.out.into (w0 := w1) (by simp)) hy.out
          have m1 : decide ((i : Int) < (all.length : Int)) = true := decide_eq_true (by omega)
          have m2 : (i : Int) < (all.length : Int) := by omega
          have m3 : (0 : Int) ≤ (i : Int) := by omega
          obtain ⟨c0, c1, c2, c3⟩ := Bal.blk A1.out.1.2.1
          have f0 : ∀ j, w4.frozen? ⟨K, j, none⟩ = false := fun j => free_at A1.out.1.2.1 j
          have A2 := hid (((((A1.out.setBlk 0 (.int .i64 y.who)).setBlk 1 (.int .i64 y.nm)).setBlk 2 (.int .i64 y.op)).setBlk 3 (.int .i64 y.cm)).setBlk 0 (.int .i64 (i : Int)))
          go_wp2_with fail
          go_meet
          refine ⟨_, rfl, hid ?_⟩
          rw [EB.out]
          exact A2.out
        · have EB : Hid (balI all i = ⟨(i : Int), 0, 0, 0⟩) := hid (by unfold balI; rw [List.getElem?_eq_none (by omega)])
          have m1 : decide ((i : Int) < (all.length : Int)) = false := decide_eq_false (by omega)
          have m2 : ¬ (i : Int) < (all.length : Int) := by omega
          go_wp2_with fail
          go_meet
          refine ⟨_, rfl, hid ?_⟩
          rw [EB.out]
          exact A1.out
      case rest =>
        clear A1
        obtain ⟨wy, rfl, A1⟩ := hcut
        generalize balI all i = b at *
        obtain ⟨z0, z1, z2, z3⟩ := Bal.blk A1.out.1.2.1
        go_wp2_with fail
        refine (C13.out _).mono ?_
        rintro e w5 ⟨rfl, b5⟩
        have A5 := hid (A1.out.later b5)
        clear A1 b5 C13 z0 z1 z2 z3
        obtain ⟨z0, z1, z2, z3⟩ := Bal.blk A5.out.1.2.1
        have A6 := A5.out.tail.alloc (.cells b.cells.toArray 27)
        obtain ⟨ao7, c7, w7, hr7, A7⟩ := appB A6 (BalsAt.one w5 b) (by rw [HBL.out]; simp; omega)
        rw [List.length_append, HBL.out] at hr7 A7
        rw [← HBN.out] at A7
        have HR7 := hid hr7
        have A7 := hid A7
        clear hr7 A6
        have eW : w5.alloc (.cells #[.int .i64 b.who, .int .i64 b.nm, .int .i64 b.op, .int .i64 b.cm] 27) = w5.alloc (.cells b.cells.toArray 27) := rfl
        cases hb : rcB b nm op with
        | true =>
          rw [hb] at RN
          go_wp2_with (at_builtin; refine wpList_append_run rfl _ (.tmp 55) 22 rfl _ _ _ _ rfl rfl HR7.out ?_)
          go_roundw
          case rel => exact ⟨i + 1, by omega, by go_num, by rw [RN.out]; rfl, A7⟩
          case measure => simp [intOf]; omega
        | false =>
          rw [hb] at RN
          go_wp2_with (at_builtin; refine wpList_append_run rfl _ (.tmp 55) 22 rfl _ _ _ _ rfl rfl HR7.out ?_)
          go_roundw
          case rel => exact ⟨i + 1, by omega, by go_num, by rw [RN.out]; rfl, A7⟩
          case measure => simp [intOf]; omega
    · obtain rfl : i = n := by omega
      have l1 : decide ((i : Int) < (i : Int)) = false := decide_eq_false (by omega)
      have hbl := bals_len all i
      have BR := hid (A0.out.into (w0 := w1) (by simp))
      have C14 := hid (some_any (many := f + 1) A0.out.readsB (by rw [hbl]; omega) (HP.out.later BR.out) hxl2.out (by have := hn.out; rw [hbl]; omega))
      rw [hbl] at C14 ⊢
      rw [show ((f + 1 : Nat) : Int) = (f : Int) + 1 by omega] at C14
      obtain ⟨t, ht⟩ : ∃ t, Hid ((smS (bals all i) xs (f + 1)).2 = t) := ⟨_, hid rfl⟩
      rw [ht.out] at C14 HK
      have HRN := rcN_le all nm op i
      have BH := hid HK.out.best
      have hlt0 := HK.out.lt
      have HTL := hid HK.out.len
      obtain ⟨a, ha⟩ : ∃ a, Hid (t[fsA ahB t (f + 1)]? = some a) := ⟨_, hid (List.getElem?_eq_getElem (by rw [HTL.out]; exact hlt0))⟩
      have HTOP := hid (HK.out.top a ha.out)
      have HCM := hid HK.out.cm
      clear HK ht A0 hbl hlt
      generalize rcN all nm op i = rn at *
      generalize fsA ahB t (f + 1) = at_ at *
      generalize cmA t (f + 1) = cm at *
      go_wp2_with fail
      refine C14.out.mono ?_
      rintro e w7 ⟨ta, tc, rfl, HT, b7⟩
      have HT := hid HT
      have B7 := hid (BR.out.trans (b7.mono BR.out.size))
      have C8 := hid (Best_any HT.out (by rw [HTL.out]; omega) (i : Int))
      rw [BH.out] at C8
      clear C14 b7 BR BH
      go_wp2_with fail
      refine C8.out.mono ?_
      rintro e w8 ⟨rfl, b8⟩
      have A8 := hid ((All.came w7).later b8)
      clear C8 b8
      have p1 : ¬ (at_ : Int) < 0 := by omega
      have p2 : ¬ ((f : Int) + 1) ≤ (at_ : Int) := by omega
      have p2b : decide (((f : Int) + 1) ≤ (at_ : Int)) = false := decide_eq_false p2
      have p3 : (0 : Int) ≤ (at_ : Int) := by omega
      have p4 : (at_ : Int) < ((f + 1 : Nat) : Int) := by omega
      have p5 : (at_ : Int) < (f : Int) + 1 := by omega
      have HLN : Hid (∀ i, i < f + 1 → ∃ x, Hid (t[i]? = some x)) := hid (fun i h => ⟨_, hid (List.getElem?_eq_getElem (by rw [HTL.out]; exact h))⟩)
      go_wp2
      go_loopw [83] (fun jv wr => ∃ j : Nat, j ≤ f + 1 ∧ jv = .int .i64 (j : Int) ∧ Hid (All [inC w7] wr)) (fun jv _ => f + 1 - (intOf jv).toNat)
      case atStart => exact ⟨0, by omega, rfl, A8⟩
      case round =>
        clear A8
        obtain ⟨j, hj, rfl, A8⟩ := hrel
        by_cases hjf : j < f + 1
        · obtain ⟨y, hy⟩ := HLN.out j hjf
          have BR := hid (A8.out.into (w0 := w7) (by simp))
          obtain ⟨g, o, rfl, hg, y0, y1, y2, y3⟩ := HT.out.at BR.out hy.out
          have hK : g ≠ wr.heap.size := by have := BR.out.size; omega
          have A2 := hid (A8.out.addBlk y.cells 27)
          have k1 : decide ((j : Int) < ((f + 1 : Nat) : Int)) = true := decide_eq_true (by omega)
          have k2 : (j : Int) < (f : Int) + 1 := by omega
          have k3 : (j : Int) < ((f + 1 : Nat) : Int) := by omega
          have k4 : decide ((j : Int) < (f : Int) + 1) = true := decide_eq_true k2
          go_upto_region 22 with fail
          have eW : wr.alloc (.cells #[.int .i64 y.who, .int .i64 y.nm, .int .i64 y.op, .int .i64 y.cm] 27) = wr.alloc (.cells y.cells.toArray 27) := rfl
          rw [eW]
          clear eW y0 y1 y2 y3 hK BR A8
          generalize hw4 : wr.alloc (.cells y.cells.toArray 27) = w4 at *
          generalize hKK : wr.heap.size = K at *
          clear hw4 hKK
          have B4 := hid (A2.out.into (w0 := w7) (by simp))
          obtain ⟨z0, z1, z2, z3⟩ := Bal.blk A2.out.1.2.1
          obtain ⟨g', o', eg, hg', y0, y1, y2, y3⟩ := HT.out.at B4.out ha.out
          cases eg
          have q1 : ¬ cm < y.cm := by have := HCM.out j y hy.out; omega
          have q1b : decide (cm < y.cm) = false := decide_eq_false q1
          have C13 := hid (fun w => rc13 (w := w) a y.nm y.op)
          rw [HTOP.out.1 j y hy.out] at C13
          go_region_held3 (fun W => W.cell? ⟨K, 1, none⟩ = some (.int .i64 y.nm) ∧ W.cell? ⟨K, 2, none⟩ = some (.int .i64 y.op) ∧ W.cell? ⟨K, 3, none⟩ = some (.int .i64 y.cm) ∧ W.cell? ⟨g, o + at_ * 4, none⟩ = some (.int .i64 a.who) ∧ W.cell? ⟨g, o + at_ * 4 + 1, none⟩ = some (.int .i64 a.nm) ∧ W.cell? ⟨g, o + at_ * 4 + 2, none⟩ = some (.int .i64 a.op) ∧ W.cell? ⟨g, o + at_ * 4 + 3, none⟩ = some (.int .i64 a.cm)) (go_keep) (first | (go_at_call 13; refine (C13.out _).mono ?_; rintro e w5 ⟨rfl, hb⟩; have B5 := hid (B4.out.trans (((bd w4).trans hb).mono B4.out.size)); obtain ⟨g1, o1, eg1, _, r0, r1, r2, r3⟩ := HT.out.at B5.out ha.out; cases eg1; have hz : w5.heap[K]? = some (.cells y.cells.toArray 27 (0, 0)) := ((((bd w4).trans hb).block K (Array.getElem?_eq_some_iff.1 A2.out.1.2.1).1).trans A2.out.1.2.1); obtain ⟨s0, s1, s2, s3⟩ := Bal.blk hz; clear hz hb))
          go_wp2
          go_roundw
          case rel => exact ⟨j + 1, by omega, by go_num, hid ((All.came w7).later B5.out)⟩
          case measure => simp [intOf]; omega
        · obtain rfl : j = f + 1 := by omega
          have BR := hid (A8.out.into (w0 := w7) (by simp))
          have k1 : decide (((f + 1 : Nat) : Int) < ((f + 1 : Nat) : Int)) = false := decide_eq_false (by omega)
          have k2 : ¬ ((f : Int) + 1) < (f : Int) + 1 := by omega
          obtain ⟨g, o, rfl, hg, y0, y1, y2, y3⟩ := HT.out.at BR.out ha.out
          by_cases hr : rn < f + 1
          · have hrb : decide ((rn : Int) < (f : Int) + 1) = true := decide_eq_true (by omega)
            have hrp : (rn : Int) < (f : Int) + 1 := by omega
            go_wp2
            go_ret
            exact ⟨rfl, B7.out.trans (BR.out.mono B7.out.size)⟩
          · have hrb : decide ((rn : Int) < (f : Int) + 1) = false := decide_eq_false (by omega)
            have hrp : ¬ (rn : Int) < (f : Int) + 1 := by omega
            have hrc : rcB a nm op = true := HTOP.out.2.resolve_left hr
            have C13 := hid (fun w => rc13 (w := w) a nm op)
            rw [hrc] at C13
            clear hrc
            go_wp2_with fail
            refine (C13.out _).mono ?_
            rintro e w9 ⟨rfl, b9⟩
            have B9 := hid (BR.out.trans (b9.mono BR.out.size))
            go_wp2
            go_ret
            exact ⟨rfl, B7.out.trans (B9.out.mono B7.out.size)⟩
end Go.Proofs.Ytjnbnmlggbfodaa

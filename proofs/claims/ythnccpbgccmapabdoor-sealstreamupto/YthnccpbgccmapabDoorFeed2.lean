import Derived.Test.YthnccpbgccmapabDoorFeed
import Derived.Deep.RegionWith
import Derived.Deep.DrawnRows
import Derived.WalkMore
import Derived.Deep.LoopGhost
namespace Go.Proofs.YthnccpbgccmapabDoor
open Go.RowKit
set_option linter.unusedVariables false
attribute [local go_sem ↓] Go.wp_at_zero Go.wp_at_succ

/-- What Feed leaves. -/
def FeedR (P : Nat) (X : List UInt8) (vs : List Value) (L : Nat) (cs : List Comp) (e : Ending) (w' : World) : Prop :=
  e = .returned (.tuple #[]) ∧ ∃ hv' s' fv' ns, ns.length = (fin X).1.length ∧ All (stC P hv' s' fv' (L + (fin X).2.1) :: rowC hv' (fin X).2.2 :: qC fv' (vs ++ ns) :: (rowsP ns (fin X).1 ++ cs)) w' ∧ s'.Ok ∧ scan .init (fin X).2.2 = .more s' ∧ ∀ v ∈ ns, TightV v

theorem takeP_size {s : Lk} {c : UInt8} (h : s.Ok) (ht : (takeP s c).2 = true) : (takeP s c).1.size ≤ 65536 := by
  have hz := h.size
  unfold takeP at ht ⊢
  split
  · exact hz
  · rename_i h2
    rw [if_neg h2] at ht
    split
    · rename_i h5
      rw [if_pos h5] at ht
      simpa using ht
    · split
      · exact hz
      · split <;> exact hz

/-- The look is a new one. -/
theorem StB.anew {w : World} {P : Nat} {hv fv : Value} {s : Lk} {L : Nat} (h : StB w P hv s fv L) : StB (((w.setCell ⟨P, 1, none⟩ (.int .i64 0)).setCell ⟨P, 2, none⟩ (.int .i64 0)).setCell ⟨P, 3, none⟩ (.int .u32 4294967295)) P hv .init fv L :=
  ((h.set1 0).set2 0).set3 4294967295

theorem cell_one {w : World} (v : Value) (t : TypeId) : (w.alloc (.cells #[v] t)).cell? ⟨w.heap.size, 0, none⟩ = some v := by
  rw [cell_at (heap_alloc_new w _)]; rfl

/-- A payload waits. -/
theorem feed_after {P : Nat} {hv av fv v6 fv7 : Value} {s : Lk} {L : Nat} {X Y : List UInt8} {Vs : List Value} {cs : List Comp} {w6 w7 : World} (h : All (rowC v6 Y :: stC P hv s fv L :: rowC av X :: qC fv Vs :: cs) w6) (hq : Que w7 fv7 (Vs ++ [v6])) (hg : (w6.alloc (.cells #[v6] 26)).grownBy w7 fv.ownBlock) (hat : ∀ k, fv7.ownBlock = some k → (fv.ownBlock = some k ∨ (w6.alloc (.cells #[v6] 26)).heap.size ≤ k) ∧ k < w7.heap.size) :
    All (stC P hv s fv L :: rowC av X :: qC fv7 (Vs ++ [v6]) :: rowC v6 Y :: cs) w7 := by
  have h1 := h.later (ba w6 (.cells #[v6] 26))
  have p : (rowC v6 Y :: stC P hv s fv L :: rowC av X :: qC fv Vs :: cs).Perm (qC fv Vs :: rowC v6 Y :: stC P hv s fv L :: rowC av X :: cs) := List.perm_middle (a := qC fv Vs) (l₁ := [rowC v6 Y, stC P hv s fv L, rowC av X]) (l₂ := cs)
  have h2 := (h1.perm p).q_grow hq hg hat
  refine h2.perm ?_
  have p2 : (qC fv7 (Vs ++ [v6]) :: rowC v6 Y :: stC P hv s fv L :: rowC av X :: cs).Perm (rowC v6 Y :: stC P hv s fv L :: rowC av X :: qC fv7 (Vs ++ [v6]) :: cs) := (List.perm_middle (a := qC fv7 (Vs ++ [v6])) (l₁ := [rowC v6 Y, stC P hv s fv L, rowC av X]) (l₂ := cs)).symm
  exact p2.trans (List.perm_middle (a := rowC v6 Y) (l₁ := [stC P hv s fv L, rowC av X, qC fv7 (Vs ++ [v6])]) (l₂ := cs)).symm

theorem Fr.trans' {F : List Nat} {w w1 w2 : World} (h : Fr F w w1) (k : Fr F w1 w2) : Fr F w w2 :=
  ⟨k.os.trans h.os, k.tape.trans h.tape, k.output.trans h.output, Nat.le_trans h.size k.size, fun i hi hF => (k.block i (Nat.lt_of_lt_of_le hi h.size) hF).trans (h.block i hi hF)⟩

set_option maxHeartbeats 12800000 in
set_option maxRecDepth 1000000 in
theorem Feed_some {w w0 : World} {P g cap : Nat} {hv fv bv : Value} {s : Lk} {L : Nat} {h b : List UInt8} {vs : List Value} {cs : List Comp} (hA : All (stC P hv s fv L :: rowC hv h :: qC fv vs :: cs) w) (hin : inC w0 ∈ cs) (hT : Tab w0) (hb : Reads w bv b) (hs : s.Ok) (hsc : scan .init h = .more s) (hlen : h.length + b.length ≤ 549755813888) (hvl : vs.length ≤ 549755813888) (hL : L ≤ 1099511627776) :
    Calls Tryd.prog 12 #[.pointer (some ⟨P, 0, none⟩), bv] w (FeedR P (h ++ b) vs L cs) := by
  have hst : StB w P hv s fv L := hA.1.2.1
  have hrow : w.ownsRow 0 5 1 hv h.length (cellsB h) := hA.2.2.1.2.1
  have hP0 : 0 < P := by
    have h0 := hT.1
    have hd := hA.2.1 (inC w0) (by simp [hin]) P (by simp [stC])
    have : ¬ P < w0.heap.size := fun e => hd (by simp [inC, e])
    omega
  have c0 := hst.c0
  obtain ⟨ah, ch, hf⟩ := owns_form hrow
  obtain ⟨ab, cb, hfb⟩ := hb.form
  subst hf hfb
  have HA := hid hA
  have RB := hid hb
  have OK := hid hs
  have SC := hid hsc
  have HT := hid hT
  clear hA hst hb hs hsc hT
  go_enter Tryd.func12, Tryd.ntmps12
  go_wp2
  go_step3
  go_wp2_with (at_builtin; refine wpList_append_bytes rfl (.tmp 12) (.tmp 13) rfl 0 _ h b _ rfl rfl hrow RB.out (by omega) (by omega) ?_)
  intro av w1 hown hg hat
  obtain ⟨X, hX⟩ : ∃ X, X = h ++ b := ⟨_, rfl⟩
  replace hown : w1.ownsRow 0 5 1 av X.length (cellsB X) := by rw [hX, List.length_append]; exact hown
  have hXl : X.length ≤ 549755813888 := by rw [hX, List.length_append]; omega
  have A1 := hid (show All (stC P (.slice ah h.length ch) s fv L :: rowC av X :: qC fv vs :: cs) w1 from ((HA.out.swap).row_grow hown hg hat).swap)
  have F0 := hid (show Fd P (.slice ah h.length ch) av X vs L cs w1 0 s fv [] [] 0 from by
    have ht := scan_more SC.out
    simp [Lk.init] at ht
    refine ⟨by simpa [rowsP] using A1.out, OK.out, by rw [ht, hX]; simp, ?_, rfl, by simp, by simp, fun v hv => by cases hv⟩
    rw [ht, List.drop_zero, hX, List.take_left]
    exact SC.out)
  have HX := hid hX
  obtain ⟨aa, ca, hva⟩ := owns_form hown
  subst hva
  clear hown hg hat hX c0 hrow A1 HA SC OK RB
  go_wp2
  go_step3
  go_wp2
  go_loopg [5] X.length (fun G iv wr => ∃ (p : Nat) (s' : Lk) (fv' : Value) (ns : List Value) (ps : List (List UInt8)) (Lx : Nat), p + G = X.length ∧ iv = .int .i64 (p : Int) ∧ Hid (Fd P (.slice ah h.length ch) (.slice aa X.length ca) X vs L cs wr p s' fv' ns ps Lx))
  case atStart => exact ⟨0, s, fv, [], [], 0, by omega, rfl, F0⟩
  case round =>
    obtain ⟨p, s1, fv1, ns, ps, Lx, hp, rfl, hrel⟩ := hrel
    have c1 := hrel.out.st.c1
    obtain ⟨q, hq⟩ : ∃ q, q = p + s1.taken := ⟨_, rfl⟩
    have hsum : ((p : Int) + (s1.taken : Int)) = (q : Int) := by omega
    have hqle : q ≤ X.length := by rw [hq]; exact hrel.out.le
    have HQ := hid hq
    have HP := hid hp
    have hpl : p ≤ X.length := by omega
    clear hq F0 hp
    by_cases hqx : q < X.length
    · obtain ⟨g, cap, hv2, hcap, _, _⟩ := owns_some hrel.out.row (by omega)
      simp only [Value.slice.injEq, true_and] at hv2
      obtain ⟨rfl, rfl⟩ := hv2
      have hcq : ¬ ca = q := by omega
      have F1 := hid hrel.out
      clear hrel
      obtain ⟨G0, hG0⟩ : ∃ G0, G0 = gk := ⟨_, rfl⟩
      rw [← hG0] at HP
      go_wp2
      clear c1
      go_loopg [5, 25] (X.length - q) (fun G2 pv kv wr2 => ∃ (k : Nat) (s2 : Lk), pv = .int .i64 (p : Int) ∧ k + G2 = X.length - q ∧ kv = .int .i64 (k : Int) ∧ Hid (Fd P (.slice ah h.length ch) (.slice (some ⟨g, 0, none⟩) X.length ca) X vs L cs wr2 p s2 fv1 ns ps Lx ∧ p + s2.taken = q + k))
      case atStart => exact ⟨0, s1, rfl, by omega, rfl, F1.out, by rw [HQ.out]; rfl⟩
      case round =>
        obtain ⟨k, s2, rfl, hk, rfl, hrel⟩ := hrel
        have HK := hid hk
        have hkle : k ≤ X.length - q := by omega
        clear hk F1
        by_cases hkm : k < X.length - q
        · obtain ⟨c, hc⟩ : ∃ c, c = X.getD (p + s2.taken) 0 := ⟨_, rfl⟩
          have q1 : wr.cell? ⟨g, q + k, none⟩ = some (.int .u8 (c.toNat : Int)) := by
            have hr := Reads.of_owns hrel.out.1.row
            obtain ⟨g', o', e', h1⟩ := hr.at_u8 (q + k) (by omega)
            simp only [Option.some.injEq, Addr.mk.injEq, and_true] at e'
            obtain ⟨rfl, rfl⟩ := e'
            rw [hc, hrel.out.2]
            simpa using h1
          have hTk := hid (take_any (HT.out.below (hrel.out.1.into hin)) hrel.out.1.st hrel.out.1.ok hP0 c)
          have HC := hid hc
          have HR := hid hrel.out
          clear hrel hc
          have hlt2 : p + s2.taken < X.length := by rw [HR.out.2]; omega
          have HL2 := hid hlt2
          clear hlt2
          go_wp2_with fail
          refine hTk.out.mono ?_
          rintro e w2 ⟨rfl, hs2, hf2⟩
          rw [HC.out] at hs2
          cases hok : (takeP s2 c).2 with
          | false =>
            -- a byte is let by
            have c5 := hs2.c5
            have f5 := hs2.free 5
            rw [← HC.out] at hs2
            have H2 := hid hs2
            have F2 := hid hf2
            have HOK := hid hok
            have hLb : L + Lx ≤ 2199023255552 := by have := HR.out.1.lx; omega
            clear hs2 hf2 hok hTk
            have eL : ((L + (Lx + 1) : Nat) : Int) = (L : Int) + (Lx : Int) + 1 := by omega
            have H3 := hid (H2.out.set5 (L + (Lx + 1)))
            have F3 := hid (F2.out.set P 5 (.int .i64 ((L + (Lx + 1) : Nat) : Int)) (by simp))
            rw [eL] at H3 F3
            clear eL
            go_wp2_with fail
            refine newLook_any.mono ?_
            rintro e w3 ⟨rfl, hb3⟩
            have H4 := H3.out.below hb3
            have F4 := hid (F3.out.trans' (Fr.below hb3))
            have d1 := H4.c1
            have d2 := H4.c2
            have d3 := H4.c3
            have g1 := H4.free 1
            have g2 := H4.free 2
            have g3 := H4.free 3
            have H5 := hid H4.anew
            have F5 := hid (((F4.out.set P 1 (.int .i64 0) (by simp)).set P 2 (.int .i64 0) (by simp)).set P 3 (.int .u32 4294967295) (by simp))
            clear H4 hb3 H3 F3 c5 f5
            go_wp2
            go_roundg (X.length - (p + 1))
            case rel => exact ⟨p + 1, .init, fv1, ns, ps, Lx + 1, by omega, by go_num, HR.out.1.letBy HL2.out (by rw [← HC.out]; exact HOK.out) H5.out F5.out⟩
            case measure => have := HP.out; omega
          | true =>
            have hsz := takeP_size HR.out.1.ok hok
            have htk := takeP_taken s2 c
            have hmo := HR.out.1.ok.more
            have hz2 := HR.out.1.ok.size
            rw [← HC.out] at hs2
            have H2 := hid hs2
            have F2 := hid hf2
            have HOK := hid hok
            have HTK := hid htk
            have hIW := hid (isWhole_any hs2 (by omega) (by omega))
            clear hs2 hf2 hok hTk htk
            by_cases hwh : wholeP (takeP s2 c).1
            · rw [decide_eq_true hwh] at hIW
              have hsw := hid (show scan .init (X.drop p) = .whole (takeP s2 c).1.size from by
                have := HR.out.1.isWhole HL2.out (by rw [← HC.out]; exact HOK.out) (by rw [← HC.out]; exact hwh)
                rw [← HC.out] at this
                exact this)
              have hsl : 13 + (takeP s2 c).1.size ≤ X.length - p := by
                have := scan_whole hsw.out
                simpa [Lk.init] using this
              have hA2 := hid (HR.out.1.all.st_turn H2.out F2.out)
              have HWH := hid hwh
              have hcp : ¬ ca = p := by omega
              obtain ⟨s3, hs3⟩ : ∃ s3, s3 = (takeP s2 c).1 := ⟨_, rfl⟩
              rw [← hs3] at hsw hsl hA2 HWH hsz HTK
              have HS3 := hid hs3
              clear hwh hs3 H2 F2
              go_wp2_with fail
              refine hIW.out.mono ?_
              rintro e w3 ⟨rfl, q3, hw3⟩
              have A3 := hid (show All (stC P (.slice ah h.length ch) s3 fv1 (L + Lx) :: rowC (.slice (some ⟨g, 0, none⟩) X.length ca) X :: qC fv1 (vs ++ ns) :: (rowsP ns ps ++ cs)) w3 from by
                rw [hw3]
                exact hA2.out.kept (F := []) ⟨rfl, rfl, rfl, Nat.le_refl _, fun _ _ _ => rfl⟩ (fun d _ k hk => by cases hk))
              have hst3 : StB w3 P (.slice ah h.length ch) s3 fv1 (L + Lx) := A3.out.1.2.1
              have d2 := hst3.c2
              have hPlt := hst3.lt
              have hPne : ¬ P = w3.heap.size := by omega
              have hC28 := hid (fun (w : World) => cut_any (w := w) g p (X.length - p) (ca - p) 9 s3.size (by omega) (by omega) (by omega))
              clear hw3 hIW hA2 hst3
              go_wp2
              go_region_with (go_at_call 28; refine (hC28.out _).mono ?_; rintro e w4 ⟨a4, rfl, ha4, hb4⟩; try (have k0 : w4.cell? ⟨w3.heap.size, 0, none⟩ = some (.slice none 0 0) := by (rw [hb4.cell (by simp)]; simp)); try (have k1 : w4.cell? ⟨w3.heap.size, 1, none⟩ = some (.slice none 0 0) := by (rw [hb4.cell (by simp)]; simp)); try (have k2 : w4.frozen? ⟨w3.heap.size, 0, none⟩ = false := by (rw [hb4.frozen (by simp)]; simp)); try (have k3 : w4.frozen? ⟨w3.heap.size, 1, none⟩ = false := by (rw [hb4.frozen (by simp)]; simp)))
              · have B5 := hid (show Below w3.heap.size w3 (w4.alloc (.cells #[.slice (some a4) s3.size s3.size, .slice (some ⟨g, p + 9 + s3.size, none⟩) 4 4] 62)) from (show Below w3.heap.size w3 w4 from ((Below.refl w3.heap.size w3).drew).trans hb4).alloc hb4.size _)
                have cv : (w4.alloc (.cells #[.slice (some a4) s3.size s3.size, .slice (some ⟨g, p + 9 + s3.size, none⟩) 4 4] 62)).cell? ⟨w4.heap.size, 0, none⟩ = some (.slice (some a4) s3.size s3.size) := by rw [cell_at (heap_alloc_new w4 _)]; rfl
                have A5 := hid (A3.out.later B5.out)
                generalize w4.alloc (.cells #[.slice (some a4) s3.size s3.size, .slice (some ⟨g, p + 9 + s3.size, none⟩) 4 4] 62) = w5 at *
                generalize w4.heap.size = V at *
                have hst5 : StB w5 P (.slice ah h.length ch) s3 fv1 (L + Lx) := A5.out.1.2.1
                have d4 := hst5.c4
                have f4 := hst5.free 4
                have hlt5 := hst5.lt
                clear hb4 A3 B5 hst5 d2 hPlt hPne
                obtain ⟨Y, hY⟩ : ∃ Y, Y = ((X.drop p).drop 9).take s3.size := ⟨_, rfl⟩
                have hYl : Y.length = s3.size := by rw [hY]; simp; omega
                have RL := hid (show Reads w5.drew (.slice (some a4) s3.size s3.size) Y from by
                  by_cases hz0 : s3.size = 0
                  · have : Y = [] := List.eq_nil_of_length_eq_zero (by omega)
                    rw [this, hz0]
                    exact ⟨some a4, 0, rfl, by simp, Or.inl ⟨rfl, fun h => by cases h⟩⟩
                  · rw [ha4 (by omega)]
                    have hr : Reads w5.drew (.slice (some ⟨g, 0, none⟩) X.length ca) X := (Reads.of_owns (A5.out.2.2.1.2.1 : w5.ownsRow 0 5 1 (.slice (some ⟨g, 0, none⟩) X.length ca) X.length (cellsB X))).drew
                    have := hr.sub (p + 9) s3.size s3.size (by omega) (Nat.le_refl _)
                    rw [Nat.zero_add, ← List.drop_drop, ← hY] at this
                    exact this)
                have AD := hid (show All _ w5.drew from A5.out.kept (F := []) ⟨rfl, rfl, rfl, Nat.le_refl _, fun _ _ _ => rfl⟩ (fun d _ k hk => by cases hk))
                have HY := hid hY
                have HYL := hid hYl
                have hVs : (vs ++ ns).length ≤ 1099511627776 := by rw [List.length_append]; have := HR.out.1.lx; omega
                clear hY hYl A5 ha4
                generalize hVV : vs ++ ns = Vs at *
                have HVV := hid hVV
                clear hVV
                go_wp2
                go_region_law (first | (refine step_append_que (by rfl) (.tmp 63) (.tmp 67) (by rfl) fv1 (.slice (some ⟨w5.heap.size, 0, none⟩) Y.length Y.length) Vs (by rfl) hq6 ⟨w6.heap.size, 0, none⟩ (by rfl) (cell_one _ _) rfl hVs ?_; intro ao7 cap7 w7 hq7 hg7 hat7; have A7 := hid (feed_after A6.out hq7 hg7 hat7); have q4 : w7.cell? ⟨P, 4, none⟩ = some fv1 := StB.c4 (A7.out.1.2.1); have g4 : w7.frozen? ⟨P, 4, none⟩ = false := StB.free (A7.out.1.2.1) 4) | (go_simp; go_at_call 29; refine (copied_any RL.out (by rw [HYL.out]; omega)).mono ?_; rintro e w6 ⟨rfl, ho6, hb6⟩; have A6 := hid (AD.out.addRow hb6 ho6); have hq6 : Que (w6.alloc (.cells #[.slice (some ⟨w5.heap.size, 0, none⟩) Y.length Y.length] 26)) fv1 Vs := qC_good _ _ _ _ (A6.out.2.2.2.2.2.2.1.2.1) ⟨rfl, rfl, rfl, by simp⟩ (fun k hk => Below.heap_alloc _ _ _ (A6.out.2.2.2.2.2.2.1.2.2 k hk)); have e4 : w6.cell? ⟨P, 4, none⟩ = some fv1 := StB.c4 (A6.out.2.2.1.2.1); have j4 : w6.frozen? ⟨P, 4, none⟩ = false := StB.free (A6.out.2.2.1.2.1) 4; have hlt6 : P < w6.heap.size := StB.lt (A6.out.2.2.1.2.1); have cv6 : w6.cell? ⟨V, 0, none⟩ = some (.slice (some a4) s3.size s3.size) := (by rw [hb6.cell (World.block_lt_of_cell? _ _ (show w5.drew.cell? ⟨V, 0, none⟩ = some (.slice (some a4) s3.size s3.size) from cv))]; exact cv); clear ho6 hb6))
                all_goals
                  have H8 := StB.set4 (show StB w7 P (.slice ah h.length ch) s3 fv1 (L + Lx) from A7.out.1.2.1) (.slice ao7 (Vs.length + 1) cap7)
                  have A8 := hid (A7.out.st_turn H8 ((Fr.refl [P] w7).set P 4 (.slice ao7 (Vs.length + 1) cap7) (by simp)))
                  have d1 := H8.c1
                  clear H8 A7 A6 q4 g4 hq7 hg7 hat7 hq6 e4 j4 hlt6 cv6 cv d4 f4 hlt5 RL AD
                  generalize w7.setCell ⟨P, 4, none⟩ (.slice ao7 (Vs.length + 1) cap7) = w8 at *
                  have htb : s3.taken ≤ 70000 := by have e0 : s3.taken = 13 + s3.size := HWH.out; omega
                  go_wp2_with fail
                  refine newLook_any.mono ?_
                  rintro e w9 ⟨rfl, hb9⟩
                  have A9 := A8.out.later hb9
                  have H9 : StB w9 P (.slice ah h.length ch) s3 (.slice ao7 (Vs.length + 1) cap7) (L + Lx) := A9.1.2.1
                  have r1 := H9.c1
                  have r2 := H9.c2
                  have r3 := H9.c3
                  have t1 := H9.free 1
                  have t2 := H9.free 2
                  have t3 := H9.free 3
                  have A10 := hid (A9.st_turn H9.anew ((((Fr.refl [P] w9).set P 1 (.int .i64 0) (by simp)).set P 2 (.int .i64 0) (by simp)).set P 3 (.int .u32 4294967295) (by simp)))
                  have hwt : s3.taken = 13 + s3.size := HWH.out
                  have HWT := hid hwt
                  clear hb9 A9 H9 A8 d1 hwt
                  go_wp2
                  go_roundg (X.length - (p + s3.taken))
                  case rel => exact ⟨p + (13 + s3.size), .init, _, _, _, Lx, by rw [HWT.out]; omega, by rw [← HWT.out]; go_num, HR.out.1.found hsw.out (by rw [HVV.out]; exact A10.out) HY.out hsl ⟨_, _, rfl⟩⟩
                  case measure => have := HP.out; have := HWT.out; omega
              · have B4 := hid (show Below w3.heap.size w3 w4 from (cut_below w3 (.cells #[.slice none 0 0, .slice none 0 0] 62)).trans (hb4.mono (B' := w3.heap.size) (by simp)))
                have B5 := hid (show Below w3.heap.size w3 ((w4.setCell ⟨w3.heap.size, 0, none⟩ (.slice (some a4) s3.size s3.size)).setCell ⟨w3.heap.size, 1, none⟩ (.slice (some ⟨g, p + 9 + s3.size, none⟩) 4 4)) from (B4.out.setCell (p := ⟨w3.heap.size, 0, none⟩) (Nat.le_refl _) _).setCell (p := ⟨w3.heap.size, 1, none⟩) (Nat.le_refl _) _)
                have cv : ((w4.setCell ⟨w3.heap.size, 0, none⟩ (.slice (some a4) s3.size s3.size)).setCell ⟨w3.heap.size, 1, none⟩ (.slice (some ⟨g, p + 9 + s3.size, none⟩) 4 4)).cell? ⟨w3.heap.size, 0, none⟩ = some (.slice (some a4) s3.size s3.size) := (World.cell?_setCell_other _ _ _ _ (by simp)).trans (World.cell?_setCell_same _ _ _ k0)
                have A5 := hid (A3.out.later B5.out)
                clear k0 k1 k2 k3
                generalize (w4.setCell ⟨w3.heap.size, 0, none⟩ (.slice (some a4) s3.size s3.size)).setCell ⟨w3.heap.size, 1, none⟩ (.slice (some ⟨g, p + 9 + s3.size, none⟩) 4 4) = w5 at *
                generalize w3.heap.size = V at *
                have hst5 : StB w5 P (.slice ah h.length ch) s3 fv1 (L + Lx) := A5.out.1.2.1
                have d4 := hst5.c4
                have f4 := hst5.free 4
                have hlt5 := hst5.lt
                clear hb4 A3 B5 hst5 d2 hPlt hPne
                obtain ⟨Y, hY⟩ : ∃ Y, Y = ((X.drop p).drop 9).take s3.size := ⟨_, rfl⟩
                have hYl : Y.length = s3.size := by rw [hY]; simp; omega
                have RL := hid (show Reads w5.drew (.slice (some a4) s3.size s3.size) Y from by
                  by_cases hz0 : s3.size = 0
                  · have : Y = [] := List.eq_nil_of_length_eq_zero (by omega)
                    rw [this, hz0]
                    exact ⟨some a4, 0, rfl, by simp, Or.inl ⟨rfl, fun h => by cases h⟩⟩
                  · rw [ha4 (by omega)]
                    have hr : Reads w5.drew (.slice (some ⟨g, 0, none⟩) X.length ca) X := (Reads.of_owns (A5.out.2.2.1.2.1 : w5.ownsRow 0 5 1 (.slice (some ⟨g, 0, none⟩) X.length ca) X.length (cellsB X))).drew
                    have := hr.sub (p + 9) s3.size s3.size (by omega) (Nat.le_refl _)
                    rw [Nat.zero_add, ← List.drop_drop, ← hY] at this
                    exact this)
                have AD := hid (show All _ w5.drew from A5.out.kept (F := []) ⟨rfl, rfl, rfl, Nat.le_refl _, fun _ _ _ => rfl⟩ (fun d _ k hk => by cases hk))
                have HY := hid hY
                have HYL := hid hYl
                have hVs : (vs ++ ns).length ≤ 1099511627776 := by rw [List.length_append]; have := HR.out.1.lx; omega
                clear hY hYl A5 ha4
                generalize hVV : vs ++ ns = Vs at *
                have HVV := hid hVV
                clear hVV
                go_wp2
                go_region_law (first | (refine step_append_que (by rfl) (.tmp 63) (.tmp 67) (by rfl) fv1 (.slice (some ⟨w5.heap.size, 0, none⟩) Y.length Y.length) Vs (by rfl) hq6 ⟨w6.heap.size, 0, none⟩ (by rfl) (cell_one _ _) rfl hVs ?_; intro ao7 cap7 w7 hq7 hg7 hat7; have A7 := hid (feed_after A6.out hq7 hg7 hat7); have q4 : w7.cell? ⟨P, 4, none⟩ = some fv1 := StB.c4 (A7.out.1.2.1); have g4 : w7.frozen? ⟨P, 4, none⟩ = false := StB.free (A7.out.1.2.1) 4) | (go_simp; go_at_call 29; refine (copied_any RL.out (by rw [HYL.out]; omega)).mono ?_; rintro e w6 ⟨rfl, ho6, hb6⟩; have A6 := hid (AD.out.addRow hb6 ho6); have hq6 : Que (w6.alloc (.cells #[.slice (some ⟨w5.heap.size, 0, none⟩) Y.length Y.length] 26)) fv1 Vs := qC_good _ _ _ _ (A6.out.2.2.2.2.2.2.1.2.1) ⟨rfl, rfl, rfl, by simp⟩ (fun k hk => Below.heap_alloc _ _ _ (A6.out.2.2.2.2.2.2.1.2.2 k hk)); have e4 : w6.cell? ⟨P, 4, none⟩ = some fv1 := StB.c4 (A6.out.2.2.1.2.1); have j4 : w6.frozen? ⟨P, 4, none⟩ = false := StB.free (A6.out.2.2.1.2.1) 4; have hlt6 : P < w6.heap.size := StB.lt (A6.out.2.2.1.2.1); have cv6 : w6.cell? ⟨V, 0, none⟩ = some (.slice (some a4) s3.size s3.size) := (by rw [hb6.cell (World.block_lt_of_cell? _ _ (show w5.drew.cell? ⟨V, 0, none⟩ = some (.slice (some a4) s3.size s3.size) from cv))]; exact cv); clear ho6 hb6))
                all_goals
                  have H8 := StB.set4 (show StB w7 P (.slice ah h.length ch) s3 fv1 (L + Lx) from A7.out.1.2.1) (.slice ao7 (Vs.length + 1) cap7)
                  have A8 := hid (A7.out.st_turn H8 ((Fr.refl [P] w7).set P 4 (.slice ao7 (Vs.length + 1) cap7) (by simp)))
                  have d1 := H8.c1
                  clear H8 A7 A6 q4 g4 hq7 hg7 hat7 hq6 e4 j4 hlt6 cv6 cv d4 f4 hlt5 RL AD
                  generalize w7.setCell ⟨P, 4, none⟩ (.slice ao7 (Vs.length + 1) cap7) = w8 at *
                  have htb : s3.taken ≤ 70000 := by have e0 : s3.taken = 13 + s3.size := HWH.out; omega
                  go_wp2_with fail
                  refine newLook_any.mono ?_
                  rintro e w9 ⟨rfl, hb9⟩
                  have A9 := A8.out.later hb9
                  have H9 : StB w9 P (.slice ah h.length ch) s3 (.slice ao7 (Vs.length + 1) cap7) (L + Lx) := A9.1.2.1
                  have r1 := H9.c1
                  have r2 := H9.c2
                  have r3 := H9.c3
                  have t1 := H9.free 1
                  have t2 := H9.free 2
                  have t3 := H9.free 3
                  have A10 := hid (A9.st_turn H9.anew ((((Fr.refl [P] w9).set P 1 (.int .i64 0) (by simp)).set P 2 (.int .i64 0) (by simp)).set P 3 (.int .u32 4294967295) (by simp)))
                  have hwt : s3.taken = 13 + s3.size := HWH.out
                  have HWT := hid hwt
                  clear hb9 A9 H9 A8 d1 hwt
                  go_wp2
                  go_roundg (X.length - (p + s3.taken))
                  case rel => exact ⟨p + (13 + s3.size), .init, _, _, _, Lx, by rw [HWT.out]; omega, by rw [← HWT.out]; go_num, HR.out.1.found hsw.out (by rw [HVV.out]; exact A10.out) HY.out hsl ⟨_, _, rfl⟩⟩
                  case measure => have := HP.out; have := HWT.out; omega
              · have B4 := hid (show Below w3.heap.size w3 w4 from (cut_below w3 (.cells #[.slice none 0 0, .slice none 0 0] 62)).trans (hb4.mono (B' := w3.heap.size) (by simp)))
                have B5 := hid (show Below w3.heap.size w3 ((w4.setCell ⟨w3.heap.size, 0, none⟩ (.slice (some a4) s3.size s3.size)).setCell ⟨w3.heap.size, 1, none⟩ (.slice (some ⟨g, p + 9 + s3.size, none⟩) 4 4)) from (B4.out.setCell (p := ⟨w3.heap.size, 0, none⟩) (Nat.le_refl _) _).setCell (p := ⟨w3.heap.size, 1, none⟩) (Nat.le_refl _) _)
                have cv : ((w4.setCell ⟨w3.heap.size, 0, none⟩ (.slice (some a4) s3.size s3.size)).setCell ⟨w3.heap.size, 1, none⟩ (.slice (some ⟨g, p + 9 + s3.size, none⟩) 4 4)).cell? ⟨w3.heap.size, 0, none⟩ = some (.slice (some a4) s3.size s3.size) := (World.cell?_setCell_other _ _ _ _ (by simp)).trans (World.cell?_setCell_same _ _ _ k0)
                have A5 := hid (A3.out.later B5.out)
                clear k0 k1 k2 k3
                generalize (w4.setCell ⟨w3.heap.size, 0, none⟩ (.slice (some a4) s3.size s3.size)).setCell ⟨w3.heap.size, 1, none⟩ (.slice (some ⟨g, p + 9 + s3.size, none⟩) 4 4) = w5 at *
                generalize w3.heap.size = V at *
                have hst5 : StB w5 P (.slice ah h.length ch) s3 fv1 (L + Lx) := A5.out.1.2.1
                have d4 := hst5.c4
                have f4 := hst5.free 4
                have hlt5 := hst5.lt
                clear hb4 A3 B5 hst5 d2 hPlt hPne
                obtain ⟨Y, hY⟩ : ∃ Y, Y = ((X.drop p).drop 9).take s3.size := ⟨_, rfl⟩
                have hYl : Y.length = s3.size := by rw [hY]; simp; omega
                have RL := hid (show Reads w5.drew (.slice (some a4) s3.size s3.size) Y from by
                  by_cases hz0 : s3.size = 0
                  · have : Y = [] := List.eq_nil_of_length_eq_zero (by omega)
                    rw [this, hz0]
                    exact ⟨some a4, 0, rfl, by simp, Or.inl ⟨rfl, fun h => by cases h⟩⟩
                  · rw [ha4 (by omega)]
                    have hr : Reads w5.drew (.slice (some ⟨g, 0, none⟩) X.length ca) X := (Reads.of_owns (A5.out.2.2.1.2.1 : w5.ownsRow 0 5 1 (.slice (some ⟨g, 0, none⟩) X.length ca) X.length (cellsB X))).drew
                    have := hr.sub (p + 9) s3.size s3.size (by omega) (Nat.le_refl _)
                    rw [Nat.zero_add, ← List.drop_drop, ← hY] at this
                    exact this)
                have AD := hid (show All _ w5.drew from A5.out.kept (F := []) ⟨rfl, rfl, rfl, Nat.le_refl _, fun _ _ _ => rfl⟩ (fun d _ k hk => by cases hk))
                have HY := hid hY
                have HYL := hid hYl
                have hVs : (vs ++ ns).length ≤ 1099511627776 := by rw [List.length_append]; have := HR.out.1.lx; omega
                clear hY hYl A5 ha4
                generalize hVV : vs ++ ns = Vs at *
                have HVV := hid hVV
                clear hVV
                go_wp2
                go_region_law (first | (refine step_append_que (by rfl) (.tmp 63) (.tmp 67) (by rfl) fv1 (.slice (some ⟨w5.heap.size, 0, none⟩) Y.length Y.length) Vs (by rfl) hq6 ⟨w6.heap.size, 0, none⟩ (by rfl) (cell_one _ _) rfl hVs ?_; intro ao7 cap7 w7 hq7 hg7 hat7; have A7 := hid (feed_after A6.out hq7 hg7 hat7); have q4 : w7.cell? ⟨P, 4, none⟩ = some fv1 := StB.c4 (A7.out.1.2.1); have g4 : w7.frozen? ⟨P, 4, none⟩ = false := StB.free (A7.out.1.2.1) 4) | (go_simp; go_at_call 29; refine (copied_any RL.out (by rw [HYL.out]; omega)).mono ?_; rintro e w6 ⟨rfl, ho6, hb6⟩; have A6 := hid (AD.out.addRow hb6 ho6); have hq6 : Que (w6.alloc (.cells #[.slice (some ⟨w5.heap.size, 0, none⟩) Y.length Y.length] 26)) fv1 Vs := qC_good _ _ _ _ (A6.out.2.2.2.2.2.2.1.2.1) ⟨rfl, rfl, rfl, by simp⟩ (fun k hk => Below.heap_alloc _ _ _ (A6.out.2.2.2.2.2.2.1.2.2 k hk)); have e4 : w6.cell? ⟨P, 4, none⟩ = some fv1 := StB.c4 (A6.out.2.2.1.2.1); have j4 : w6.frozen? ⟨P, 4, none⟩ = false := StB.free (A6.out.2.2.1.2.1) 4; have hlt6 : P < w6.heap.size := StB.lt (A6.out.2.2.1.2.1); have cv6 : w6.cell? ⟨V, 0, none⟩ = some (.slice (some a4) s3.size s3.size) := (by rw [hb6.cell (World.block_lt_of_cell? _ _ (show w5.drew.cell? ⟨V, 0, none⟩ = some (.slice (some a4) s3.size s3.size) from cv))]; exact cv); clear ho6 hb6))
                all_goals
                  have H8 := StB.set4 (show StB w7 P (.slice ah h.length ch) s3 fv1 (L + Lx) from A7.out.1.2.1) (.slice ao7 (Vs.length + 1) cap7)
                  have A8 := hid (A7.out.st_turn H8 ((Fr.refl [P] w7).set P 4 (.slice ao7 (Vs.length + 1) cap7) (by simp)))
                  have d1 := H8.c1
                  clear H8 A7 A6 q4 g4 hq7 hg7 hat7 hq6 e4 j4 hlt6 cv6 cv d4 f4 hlt5 RL AD
                  generalize w7.setCell ⟨P, 4, none⟩ (.slice ao7 (Vs.length + 1) cap7) = w8 at *
                  have htb : s3.taken ≤ 70000 := by have e0 : s3.taken = 13 + s3.size := HWH.out; omega
                  go_wp2_with fail
                  refine newLook_any.mono ?_
                  rintro e w9 ⟨rfl, hb9⟩
                  have A9 := A8.out.later hb9
                  have H9 : StB w9 P (.slice ah h.length ch) s3 (.slice ao7 (Vs.length + 1) cap7) (L + Lx) := A9.1.2.1
                  have r1 := H9.c1
                  have r2 := H9.c2
                  have r3 := H9.c3
                  have t1 := H9.free 1
                  have t2 := H9.free 2
                  have t3 := H9.free 3
                  have A10 := hid (A9.st_turn H9.anew ((((Fr.refl [P] w9).set P 1 (.int .i64 0) (by simp)).set P 2 (.int .i64 0) (by simp)).set P 3 (.int .u32 4294967295) (by simp)))
                  have hwt : s3.taken = 13 + s3.size := HWH.out
                  have HWT := hid hwt
                  clear hb9 A9 H9 A8 d1 hwt
                  go_wp2
                  go_roundg (X.length - (p + s3.taken))
                  case rel => exact ⟨p + (13 + s3.size), .init, _, _, _, Lx, by rw [HWT.out]; omega, by rw [← HWT.out]; go_num, HR.out.1.found hsw.out (by rw [HVV.out]; exact A10.out) HY.out hsl ⟨_, _, rfl⟩⟩
                  case measure => have := HP.out; have := HWT.out; omega
            · rw [decide_eq_false hwh] at hIW
              have HWH := hid hwh
              clear hwh
              go_wp2_with fail
              refine hIW.out.mono ?_
              rintro e w3 ⟨rfl, q3, hw3⟩
              have R3 := hid (show Fd P (.slice ah h.length ch) (.slice (some ⟨g, 0, none⟩) X.length ca) X vs L cs w3 p (takeP s2 c).1 fv1 ns ps Lx from by
                have hh := HR.out.1.took HL2.out (by rw [← HC.out]; exact HOK.out) (by rw [← HC.out]; exact HWH.out) (by rw [← HC.out]; exact H2.out) F2.out
                rw [← HC.out] at hh
                rw [hw3]
                exact hh.drewN q3)
              clear hw3 hIW
              go_wp2
              go_roundg (X.length - q - (k + 1))
              case rel => exact ⟨k + 1, (takeP s2 c).1, rfl, by omega, by go_num, R3.out, by rw [HTK.out]; have := HR.out.2; omega⟩
              case measure => have := HK.out; omega
        · have hqk := hid (show p + s2.taken = X.length by have := hrel.out.2; omega)
          have hdn := hid (hrel.out.1.done hqk.out)
          have hHo := hid (hold_any hrel.out.1.all (p := p) hpl (by omega))
          have HR := hid hrel.out.1
          clear hrel
          go_wp2_with fail
          refine hHo.out.mono ?_
          rintro e w3 ⟨rfl, hv', hA3⟩
          have R := hid (show FeedR P (h ++ b) vs L cs (.returned (.tuple #[])) w3 from by
            rw [← HX.out]
            refine ⟨rfl, hv', s2, fv1, ns, by rw [hdn.out.1]; exact HR.out.nl, ?_, HR.out.ok, by rw [hdn.out.1]; exact hdn.out.2, HR.out.tg⟩
            rw [hdn.out.1]
            exact hA3)
          clear hA3 hHo
          go_wp2
          simp only [Exit.noGoto]
          go_end0
          exact R.out
    · have hqk := hid (show p + s1.taken = X.length by have := HQ.out; omega)
      have hdn := hid (hrel.out.done hqk.out)
      have hHo := hid (hold_any hrel.out.all (p := p) hpl (by omega))
      have HR := hid hrel.out
      have hfinal := hid (show ∀ w3 hv', All (stC P hv' s1 fv1 (L + Lx) :: rowC hv' (X.drop p) :: qC fv1 (vs ++ ns) :: (rowsP ns ps ++ cs)) w3 → FeedR P (h ++ b) vs L cs (.returned (.tuple #[])) w3 from fun w3 hv' hA3 => by
        rw [← HX.out]
        refine ⟨rfl, hv', s1, fv1, ns, by rw [hdn.out.1]; exact HR.out.nl, ?_, HR.out.ok, by rw [hdn.out.1]; exact hdn.out.2, HR.out.tg⟩
        rw [hdn.out.1]
        exact hA3)
      have hqe : q = X.length := by omega
      subst hqe
      have hrow := hrel.out.row
      generalize hwo : wr = wo at *
      clear hwo
      rcases hrow.2 with ⟨e0, e1⟩ | ⟨g, cap, cur, e0, _, _, hcap, _⟩
      · simp only [Value.slice.injEq] at e0
        obtain ⟨rfl, hx0, rfl⟩ := e0
        have hX0 : X = [] := List.eq_nil_of_length_eq_zero e1
        subst hX0
        have hp0 : p = 0 := by simpa using hpl
        subst hp0
        have ht0 : s1.taken = 0 := by simpa using hqk.out
        rw [ht0] at c1
        have c1' : wo.cell? ⟨P, 1, none⟩ = some (.int .i64 0) := c1
        clear hrel hrow hqk hqle hqx hpl HQ HP e1 hx0 hsum ht0 c1 hXl
        go_wp2
        go_loopg [5, 25] 0 (fun G2 pv kv wr2 => ∃ k : Nat, pv = .int .i64 0 ∧ kv = .int .i64 (k : Int) ∧ wo = wr2)
        case atStart => exact ⟨0, rfl, rfl, rfl⟩
        case round =>
          obtain ⟨k, rfl, rfl, rfl⟩ := hrel
          have hk0 : ¬ ((k : Int) < 0) := by omega
          go_wp2_with fail
          refine hHo.out.mono ?_
          rintro e w3 ⟨rfl, hv', hA3⟩
          have R := hid (hfinal.out w3 hv' hA3)
          clear hA3 hHo
          go_wp2
          simp only [Exit.noGoto]
          go_end0
          exact R.out
      · simp only [Value.slice.injEq, true_and] at e0
        obtain ⟨rfl, rfl⟩ := e0
        by_cases hce : ca = X.length
        · subst hce
          clear hrel hrow hqk hqle hqx hpl HQ HP hcap
          go_wp2
          go_loopg [5, 25] 0 (fun G2 pv kv wr2 => ∃ k : Nat, pv = .int .i64 (p : Int) ∧ kv = .int .i64 (k : Int) ∧ wo = wr2)
          case atStart => exact ⟨0, rfl, rfl, rfl⟩
          case round =>
            obtain ⟨k, rfl, rfl, rfl⟩ := hrel
            have hk0 : ¬ ((k : Int) < 0) := by omega
            go_wp2_with fail
            refine hHo.out.mono ?_
            rintro e w3 ⟨rfl, hv', hA3⟩
            have R := hid (hfinal.out w3 hv' hA3)
            clear hA3 hHo
            go_wp2
            simp only [Exit.noGoto]
            go_end0
            exact R.out
        · clear hrel hrow hqk hqle hqx hpl HQ HP
          go_wp2
          go_loopg [5, 25] 0 (fun G2 pv kv wr2 => ∃ k : Nat, pv = .int .i64 (p : Int) ∧ kv = .int .i64 (k : Int) ∧ wo = wr2)
          case atStart => exact ⟨0, rfl, rfl, rfl⟩
          case round =>
            obtain ⟨k, rfl, rfl, rfl⟩ := hrel
            have hk0 : ¬ ((k : Int) < 0) := by omega
            go_wp2_with fail
            refine hHo.out.mono ?_
            rintro e w3 ⟨rfl, hv', hA3⟩
            have R := hid (hfinal.out w3 hv' hA3)
            clear hA3 hHo
            go_wp2
            simp only [Exit.noGoto]
            go_end0
            exact R.out
end Go.Proofs.YthnccpbgccmapabDoor

import Derived.Test.YtgmjjopfpenceaaDoorD13r
namespace Go.Proofs.YtgmjjopfpenceaaDoor
open Go.RowKit
set_option linter.unusedVariables false

set_option maxHeartbeats 3200000 in
set_option maxRecDepth 1000000 in
theorem readop_law {s : Value} {l : Ws} {w : World} (V : Vars w) (T : Tab w) (F : Wf w) (hs : Rt w s l) (hl : l.length * 16 ≤ 140737488355328) (hx : ∀ x ∈ l, x.length ≤ 140737488355328) :
    Calls Tryd.prog 5 #[s] w fun e w' => e = .returned (.bool true) ∧ Below w.heap.size w w' := by
  obtain ⟨ao, c, rfl⟩ := hs.form
  obtain ⟨ao1, c1, w1, hr, A1⟩ := appR (l := []) (All.addNil (e := 9) (All.came w)) hs (by simp; omega)
  simp only [List.length_nil, Nat.zero_add, List.nil_append] at hr A1
  have R := hid hr
  have B1 := hid A1
  have VV : Hid (∀ cs W, All cs W → inC w ∈ cs → Vars W ∧ Tab W ∧ Wf W ∧ Rt W (.slice ao l.length c) l) := hid (fun cs W h hm => ⟨V.later (h.into hm), T.below (h.into hm), F.later (h.into hm), hs.later (h.into hm)⟩)
  have Q12 : Hid (Calls Tryd.prog 12 #[.slice ao1 l.length c1] w1 fun e w2 => e = .returned (.tuple #[opV (readO l).o.k ⟨(readO l).o.nm.toArray⟩ ⟨(readO l).o.tx.toArray⟩ ((readO l).o.n : Int) ((readO l).o.m : Int), .int .i64 ((readO l).k : Int), .int .i64 (readO l).e]) ∧ All (ownC 9 (.slice ao1 l.length c1) (txW l) :: [inC w]) w2) := hid (ReadOp_any A1 (fun W h => rt_own h) (fun W h => (VV.out _ _ h (by simp)).1) (fun W h => (VV.out _ _ h (by simp)).2.1) (fun W h => (VV.out _ _ h (by simp)).2.2.1) (by omega) hx)
  have Q15 : Hid (∀ cs W, All cs W → inC w ∈ cs → Calls Tryd.prog 15 #[.slice ao l.length c] W fun e w2 => e = .returned (.tuple #[opV (readO l).o.k ⟨(readO l).o.nm.toArray⟩ ⟨(readO l).o.tx.toArray⟩ ((readO l).o.n : Int) ((readO l).o.m : Int), .int .i64 ((readO l).k : Int), .int .i64 (readO l).e]) ∧ All cs w2) := hid (fun cs W h hm => rReadOp_any h (fun W h => (VV.out _ _ h hm).2.2.2) (by omega) hx)
  have TX : Hid (∀ s t cs W, All cs W → Rt W s l → Rt W t l → Calls Tryd.prog 11 #[s, t] W fun e w' => e = .returned (.bool true) ∧ All cs w') := hid (fun s t cs W h h1 h2 => (texts_same h1 h2 (by omega)).mono fun e w' ⟨he, q, hq⟩ => ⟨he, hq ▸ h.drewN q⟩)
  have ek : (((readO l).k : Int) != ((readO l).k : Int)) = false := by simp
  have ee : ((readO l).e != (readO l).e) = false := by simp
  by_cases h0 : (readO l).e = 0
  · obtain ⟨hk, hw, hkl⟩ := readO_ok h0
    have R9 : Hid (∀ cs W, All cs W → inC w ∈ cs → Calls Tryd.prog 9 #[opV (readO l).o.k ⟨(readO l).o.nm.toArray⟩ ⟨(readO l).o.tx.toArray⟩ ((readO l).o.n : Int) ((readO l).o.m : Int)] W fun e w' => ∃ v, e = .returned (.tuple #[v, .int .i64 0]) ∧ All (ownC 9 v (txW (l.take (readO l).k)) :: cs) w') := hid (fun cs W h hm => by
      have := Op_any (k := (readO l).o.k) (nm := (readO l).o.nm) (tx := (readO l).o.tx) (n := ((readO l).o.n : Int)) (m := ((readO l).o.m : Int)) h (fun W h => (VV.out _ _ h hm).1) (fun W h => (VV.out _ _ h hm).2.1) (fun W h => (VV.out _ _ h hm).2.2.1)
      unfold chkR8 at hk
      rw [hk, hw] at this
      exact this)
    have CUT : Hid (∀ W, Rt W (.slice ao l.length c) l → ∃ ao' c', (∀ W, (Instr.slice 28 (.slice ao l.length c) none (some (.int .i64 ((readO l).k : Int))) none).run Tryd.prog W = .ok (.slice ao' (readO l).k c') W) ∧ Rt W (.slice ao' (readO l).k c') (l.take (readO l).k)) := hid (fun W h => cut_h h hkl rfl)
    have TX2 : Hid (∀ s t cs W, All cs W → Rt W s (l.take (readO l).k) → Rt W t (l.take (readO l).k) → Calls Tryd.prog 11 #[s, t] W fun e w' => e = .returned (.bool true) ∧ All cs w') := hid (fun s t cs W h h1 h2 => (texts_same h1 h2 (by rw [List.length_take]; omega)).mono fun e w' ⟨he, q, hq⟩ => ⟨he, hq ▸ h.drewN q⟩)
    rw [h0] at ee Q12 Q15
    clear hs hl hx A1 hr V T F h0 hk hw hkl
    generalize (readO l).k = K at *
    generalize ByteArray.mk (readO l).o.nm.toArray = X1 at *
    generalize ByteArray.mk (readO l).o.tx.toArray = X2 at *
    generalize (readO l).o.k = OK at *
    generalize (readO l).o.n = ON at *
    generalize (readO l).o.m = OM at *
    generalize l.length = nl at *
    have e2 : (OK == OK) = true := by simp
    have e3 : (X1.toList == X1.toList) = true := by simp
    have e4 : (X2.toList == X2.toList) = true := by simp
    go_enter Tryd.func5, Tryd.ntmps5
    go_wp2_with (at_builtin; refine wpList_append_run rfl _ _ 28 rfl _ _ _ _ rfl rfl R.out ?_; refine Hid.out ?_)
    refine hid ?_
    go_wp2_with (go_at_call 12; refine Q12.out.mono ?_; rintro e w2 ⟨rfl, A2⟩; have B2 := hid (A2.addBlk [.int .i64 OK, .string X1, .string X2, .int .i64 (ON : Int), .int .i64 (OM : Int)] 27); clear A2; refine Hid.out ?_)
    refine hid ?_
    clear Q12 B1 R
    go_wp2_with (go_at_call 15; refine (Q15.out _ _ B2.out (by simp)).mono ?_; rintro e w4 ⟨rfl, A4⟩; have A4h := hid A4; have B4 := hid (A4.addBlk [.int .i64 OK, .string X1, .string X2, .int .i64 (ON : Int), .int .i64 (OM : Int)] 27); clear A4; refine Hid.out ?_)
    refine hid ?_
    clear B2 Q15
    obtain ⟨r0, r1, r2, r3, r4, r5⟩ := blk5 A4h.out (.head _)
    obtain ⟨s0, s1, s2, s3, s4, _⟩ := blk5 B4.out (.tail _ (.head _))
    clear A4h
    have T7 := hid (TX.out _ _ _ _ B4.out (rt_mem B4.out (.tail _ (.tail _ (.head _)))) (VV.out _ _ B4.out (by simp)).2.2.2)
    clear TX
    go_wp2_with (go_at_call 11; refine T7.out.mono ?_; rintro e w6 ⟨rfl, A6⟩; have B6 := hid A6; clear A6; refine Hid.out ?_)
    refine hid ?_
    clear B4 T7 r0 r1 r2 r3 r4 r5 s0 s1 s2 s3 s4
    obtain ⟨r0, r1, r2, r3, r4, r5⟩ := blk5 B6.out (.tail _ (.head _))
    have P9 := hid (R9.out _ _ B6.out (by simp))
    clear R9
    go_wp2_with (go_at_call 9; refine P9.out.mono ?_; rintro e w7 ⟨v7, rfl, A7⟩; have B7 := hid A7; clear A7; refine Hid.out ?_)
    refine hid ?_
    clear B6 r0 r1 r2 r3 r4 r5 P9
    obtain ⟨ao8, c8, hcut, h8⟩ := CUT.out w7 (VV.out _ _ B7.out (by simp)).2.2.2
    have T8 := hid (TX2.out _ _ _ _ B7.out (rt_own B7.out) h8)
    clear CUT h8 TX2 VV
    go_wp2_with (go_at_call 11; refine T8.out.mono ?_; rintro e w9 ⟨rfl, A9⟩; have fin := hid (A9.into (w0 := w) (by simp)); clear A9; refine Hid.out ?_)
    refine hid ?_
    clear B7 T8
    go_wp2
    go_ret
    exact ⟨rfl, fin.out⟩
  · have he : ((readO l).e != 0) = true := by simpa using h0
    clear hs hl hx A1 hr V T F h0
    generalize (readO l).k = K at *
    generalize (readO l).e = E at *
    generalize ByteArray.mk (readO l).o.nm.toArray = X1 at *
    generalize ByteArray.mk (readO l).o.tx.toArray = X2 at *
    generalize (readO l).o.k = OK at *
    generalize (readO l).o.n = ON at *
    generalize (readO l).o.m = OM at *
    generalize l.length = nl at *
    have e2 : (OK == OK) = true := by simp
    have e3 : (X1.toList == X1.toList) = true := by simp
    have e4 : (X2.toList == X2.toList) = true := by simp
    go_enter Tryd.func5, Tryd.ntmps5
    go_wp2_with (at_builtin; refine wpList_append_run rfl _ _ 28 rfl _ _ _ _ rfl rfl R.out ?_; refine Hid.out ?_)
    refine hid ?_
    go_wp2_with (go_at_call 12; refine Q12.out.mono ?_; rintro e w2 ⟨rfl, A2⟩; have B2 := hid (A2.addBlk [.int .i64 OK, .string X1, .string X2, .int .i64 (ON : Int), .int .i64 (OM : Int)] 27); clear A2; refine Hid.out ?_)
    refine hid ?_
    clear Q12 B1 R
    go_wp2_with (go_at_call 15; refine (Q15.out _ _ B2.out (by simp)).mono ?_; rintro e w4 ⟨rfl, A4⟩; have A4h := hid A4; have B4 := hid (A4.addBlk [.int .i64 OK, .string X1, .string X2, .int .i64 (ON : Int), .int .i64 (OM : Int)] 27); clear A4; refine Hid.out ?_)
    refine hid ?_
    clear B2 Q15
    obtain ⟨r0, r1, r2, r3, r4, r5⟩ := blk5 A4h.out (.head _)
    obtain ⟨s0, s1, s2, s3, s4, _⟩ := blk5 B4.out (.tail _ (.head _))
    clear A4h
    have T7 := hid (TX.out _ _ _ _ B4.out (rt_mem B4.out (.tail _ (.tail _ (.head _)))) (VV.out _ _ B4.out (by simp)).2.2.2)
    clear TX
    go_wp2_with (go_at_call 11; refine T7.out.mono ?_; rintro e w6 ⟨rfl, A6⟩; have fin := hid (A6.into (w0 := w) (by simp)); clear A6; refine Hid.out ?_)
    refine hid ?_
    clear B4 T7 r0 r1 r2 r3 r4 r5 s0 s1 s2 s3 s4 VV
    go_wp2
    go_ret
    exact ⟨rfl, fin.out⟩
end Go.Proofs.YtgmjjopfpenceaaDoor

import Derived.Test.YtgmjjopfpenceabDoorE7
namespace Go.Proofs.YtgmjjopfpenceabDoor
open Go.RowKit
set_option linter.unusedVariables false

theorem blkm {B : Nat} {x y z : Value} {cs : List Comp} {w : World} (h : All cs w) (hm : blkC B [x, y, z] 24 ∈ cs) : w.cell? ⟨B, 0, none⟩ = some x ∧ w.cell? ⟨B, 1, none⟩ = some y ∧ w.cell? ⟨B, 2, none⟩ = some z ∧ B < w.heap.size := by
  have hb := (h.mem hm).2.1
  exact ⟨by rw [cell_at hb]; rfl, by rw [cell_at hb]; rfl, by rw [cell_at hb]; rfl, (h.mem hm).2.2 B (by simp [blkC])⟩

set_option maxHeartbeats 3200000 in
set_option maxRecDepth 1000000 in
theorem readres_law {s : Value} {l : Ws} {w : World} (V : Vars w) (D : Cd w) (hs : Rt w s l) (hl : l.length * 16 ≤ 140737488355328) (hx : ∀ x ∈ l, x.length ≤ 140737488355328) :
    Calls Tryd.prog 4 #[s] w fun e w' => e = .returned (.bool true) ∧ Below w.heap.size w w' := by
  obtain ⟨ao, c, rfl⟩ := hs.form
  have HS := hid hs
  obtain ⟨ao1, c1, w1, hr, A1⟩ := appR (l := []) (All.addNil (e := 9) (All.came w)) hs (by simp; omega)
  simp only [List.length_nil, Nat.zero_add, List.nil_append] at hr A1
  have R := hid hr
  have B1 := hid A1
  have hi := readR_items l
  have VV : Hid (∀ cs W, All cs W → inC w ∈ cs → Vars W ∧ Cd W ∧ Rt W (.slice ao l.length c) l) := hid (fun cs W h hm => ⟨V.later (h.into hm), D.later (h.into hm), hs.later (h.into hm)⟩)
  have Q10 : Hid (Calls Tryd.prog 10 #[.slice ao1 l.length c1] w1 fun e w2 => ∃ v, e = .returned (.tuple #[resV (readR l).c (readR l).n v, .int .i64 ((readR l).k : Int), .int .i64 (readR l).e]) ∧ All (ownC 9 v (txW (readR l).items) :: ownC 9 (.slice ao1 l.length c1) (txW l) :: [inC w]) w2) := hid (ReadResult_any A1 (VV.out _ _ A1 (by simp)).1 (VV.out _ _ A1 (by simp)).2.1 (rt_own A1) hl hx)
  have Q11 : Hid (∀ cs W, All cs W → inC w ∈ cs → Calls Tryd.prog 11 #[.slice ao l.length c] W fun e w2 => ∃ v, e = .returned (.tuple #[resV (readR l).c (readR l).n v, .int .i64 ((readR l).k : Int), .int .i64 (readR l).e]) ∧ All (ownC 9 v (txW (readR l).items) :: cs) w2) := hid (fun cs W h hm => rReadResult_any h (VV.out _ _ h hm).2.2 hl hx)
  have RS : Hid (∀ s t W, Rt W s (readR l).items → Rt W t (readR l).items → Calls Tryd.prog 8 #[resV (readR l).c (readR l).n s, resV (readR l).c (readR l).n t] W fun e w' => e = .returned (.bool true) ∧ Below W.heap.size W w') := hid (fun s t W h1 h2 => results_same h1 h2 (by omega))
  have TX : Hid (∀ s t W, Rt W s l → Rt W t l → Calls Tryd.prog 7 #[s, t] W fun e w' => e = .returned (.bool true) ∧ ∃ q, w' = W.drewN q) := hid (fun s t W h1 h2 => texts_same h1 h2 (by omega))
  have ek : (((readR l).k : Int) != ((readR l).k : Int)) = false := by simp
  have ee : ((readR l).e != (readR l).e) = false := by simp
  by_cases h0 : (readR l).e = 0
  · obtain ⟨hk, hw, hkl⟩ := readR_ok h0
    have R5 : Hid (∀ s cs W, All cs W → inC w ∈ cs → (∀ W, All cs W → Rt W s (readR l).items) → Calls Tryd.prog 5 #[resV (readR l).c (readR l).n s] W fun e w' => ∃ v, e = .returned (.tuple #[v, .int .i64 0]) ∧ All (ownC 9 v (txW (l.take (readR l).k)) :: cs) w') := hid (fun s cs W h hm hR => by
      have := Result_any (c := (readR l).c) (n := (readR l).n) h hR (fun W h => (VV.out _ _ h hm).1) (fun W h => (VV.out _ _ h hm).2.1) (by omega)
      rw [hk, hw] at this
      exact this)
    have CUT : Hid (∀ W, Rt W (.slice ao l.length c) l → ∃ ao' c', (∀ W, (Instr.slice 22 (.slice ao l.length c) none (some (.int .i64 ((readR l).k : Int))) none).run Tryd.prog W = .ok (.slice ao' (readR l).k c') W) ∧ Rt W (.slice ao' (readR l).k c') (l.take (readR l).k)) := hid (fun W h => cut_h h hkl rfl)
    have TX2 : Hid (∀ s t W, Rt W s (l.take (readR l).k) → Rt W t (l.take (readR l).k) → Calls Tryd.prog 7 #[s, t] W fun e w' => e = .returned (.bool true) ∧ ∃ q, w' = W.drewN q) := hid (fun s t W h1 h2 => texts_same h1 h2 (by rw [List.length_take]; omega))
    rw [h0] at ee Q10 Q11
    clear hs hl hx A1 hr hi V D h0 hk hw hkl
    generalize (readR l).c = C at *
    generalize (readR l).n = N at *
    generalize (readR l).k = K at *
    generalize hit : (readR l).items = IT at *
    clear hit
    generalize hnl : l.length = nl at *
    have HNL := hid hnl
    clear hnl
    go_enter Tryd.func4, Tryd.ntmps4
    go_wp2_with (at_builtin; refine wpList_append_run rfl _ _ 22 rfl _ _ _ _ rfl rfl R.out ?_; refine Hid.out ?_)
    refine hid ?_
    go_wp2_with (go_at_call 10; refine Q10.out.mono ?_; rintro e w2 ⟨v2, rfl, A2⟩; obtain ⟨ao2, c2, rfl⟩ := own9 A2; have B2 := hid (A2.addBlk [.int .i64 C, .int .i64 N, .slice ao2 IT.length c2] 24); clear A2; refine Hid.out ?_)
    refine hid ?_
    clear Q10 B1 R
    go_wp2_with (go_at_call 11; refine (Q11.out _ _ B2.out (by simp)).mono ?_; rintro e w4 ⟨v4, rfl, A4⟩; obtain ⟨ao4, c4, rfl⟩ := own9 A4; have B4 := hid (A4.addBlk [.int .i64 C, .int .i64 N, .slice ao4 IT.length c4] 24); have A4h := hid A4; clear A4; refine Hid.out ?_)
    refine hid ?_
    clear B2 Q11
    obtain ⟨r0, r1, r2, r3⟩ := blkm A4h.out (.tail _ (.head _))
    obtain ⟨s0, s1, s2, _⟩ := blkm B4.out (.tail _ (.tail _ (.head _)))
    clear A4h
    have P8 := hid (RS.out _ _ _ (rt_mem B4.out (.tail _ (.tail _ (.tail _ (.head _))))) (rt_mem B4.out (.tail _ (.head _))))
    clear RS
    go_wp2_with (go_at_call 8; refine P8.out.mono ?_; rintro e w5 ⟨rfl, b5⟩; have B5 := hid (B4.out.later b5); clear b5; refine Hid.out ?_)
    refine hid ?_
    have T7 := hid (TX.out _ _ w5 (rt_mem B5.out (.tail _ (.tail _ (.tail _ (.tail _ (.head _)))))) (VV.out _ _ B5.out (by simp)).2.2)
    clear B4 P8 r0 r1 r2 s0 s1 s2
    go_wp2_with (go_at_call 7; refine T7.out.mono ?_; rintro e w6 ⟨rfl, q6, rfl⟩; have B6 := hid (B5.out.drewN q6); refine Hid.out ?_)
    refine hid ?_
    clear B5 T7
    generalize hw6 : World.drewN _ q6 = w6 at *
    clear hw6
    obtain ⟨r0, r1, r2, _⟩ := blkm B6.out (.tail _ (.tail _ (.head _)))
    have P5 := hid (R5.out _ _ _ B6.out (by simp) (fun W h => rt_mem h (.tail _ (.tail _ (.tail _ (.head _))))))
    clear R5
    go_wp2_with (go_at_call 5; refine P5.out.mono ?_; rintro e w7 ⟨v7, rfl, A7⟩; have B7 := hid A7; clear A7; refine Hid.out ?_)
    refine hid ?_
    clear B6 r0 r1 r2 P5
    obtain ⟨ao8, c8, hcut, h8⟩ := CUT.out w7 ((VV.out _ _ B7.out (by simp)).2.2)
    have T8 := hid (TX2.out _ _ w7 (rt_own B7.out) h8)
    have fin := hid (B7.out.into (w0 := w) (by simp))
    clear CUT h8 TX2 B7 VV TX
    go_wp2_with (go_at_call 7; refine T8.out.mono ?_; rintro e w9 ⟨rfl, q9, rfl⟩; have fin9 := hid (fin.out.trans ((bdN w7 q9).mono fin.out.size)); refine Hid.out ?_)
    refine hid ?_
    go_wp2
    go_ret
    exact ⟨rfl, fin9.out⟩
  · have he : ((readR l).e != 0) = true := by simpa using h0
    clear hs hl hx A1 hr hi V D h0
    generalize (readR l).c = C at *
    generalize (readR l).n = N at *
    generalize (readR l).k = K at *
    generalize (readR l).e = E at *
    generalize hit : (readR l).items = IT at *
    clear hit
    generalize hnl : l.length = nl at *
    have HNL := hid hnl
    clear hnl
    go_enter Tryd.func4, Tryd.ntmps4
    go_wp2_with (at_builtin; refine wpList_append_run rfl _ _ 22 rfl _ _ _ _ rfl rfl R.out ?_; refine Hid.out ?_)
    refine hid ?_
    go_wp2_with (go_at_call 10; refine Q10.out.mono ?_; rintro e w2 ⟨v2, rfl, A2⟩; obtain ⟨ao2, c2, rfl⟩ := own9 A2; have B2 := hid (A2.addBlk [.int .i64 C, .int .i64 N, .slice ao2 IT.length c2] 24); clear A2; refine Hid.out ?_)
    refine hid ?_
    clear Q10 B1 R
    go_wp2_with (go_at_call 11; refine (Q11.out _ _ B2.out (by simp)).mono ?_; rintro e w4 ⟨v4, rfl, A4⟩; obtain ⟨ao4, c4, rfl⟩ := own9 A4; have B4 := hid (A4.addBlk [.int .i64 C, .int .i64 N, .slice ao4 IT.length c4] 24); have A4h := hid A4; clear A4; refine Hid.out ?_)
    refine hid ?_
    clear B2 Q11
    obtain ⟨r0, r1, r2, r3⟩ := blkm A4h.out (.tail _ (.head _))
    obtain ⟨s0, s1, s2, _⟩ := blkm B4.out (.tail _ (.tail _ (.head _)))
    clear A4h
    have P8 := hid (RS.out _ _ _ (rt_mem B4.out (.tail _ (.tail _ (.tail _ (.head _))))) (rt_mem B4.out (.tail _ (.head _))))
    clear RS
    go_wp2_with (go_at_call 8; refine P8.out.mono ?_; rintro e w5 ⟨rfl, b5⟩; have B5 := hid (B4.out.later b5); clear b5; refine Hid.out ?_)
    refine hid ?_
    have T7 := hid (TX.out _ _ w5 (rt_mem B5.out (.tail _ (.tail _ (.tail _ (.tail _ (.head _)))))) (VV.out _ _ B5.out (by simp)).2.2)
    clear B4 P8 r0 r1 r2 s0 s1 s2
    go_wp2_with (go_at_call 7; refine T7.out.mono ?_; rintro e w6 ⟨rfl, q6, rfl⟩; have B6 := hid (B5.out.drewN q6); refine Hid.out ?_)
    refine hid ?_
    clear B5 T7
    generalize hw6 : World.drewN _ q6 = w6 at *
    clear hw6
    have fin := hid (B6.out.into (w0 := w) (by simp))
    clear B6 VV TX
    go_wp2
    go_ret
    exact ⟨rfl, fin.out⟩
end Go.Proofs.YtgmjjopfpenceabDoor

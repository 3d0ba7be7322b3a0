import Derived.Test.YtpfpamkbahgkpaaScr4
namespace Go.Proofs.Ytpfpamkbahgkpaa
open Go.RowKit
set_option linter.unusedVariables false

set_option maxHeartbeats 6400000 in
set_option maxRecDepth 1000000 in
/-- THE LAW. -/
theorem script_any {xs : List OpV} {s : Value} {r1 r2 : Int} {w : World} (hs : OpsAt w s xs) (hd : ∀ x ∈ xs, x.o.d.length ≤ 1048576) (hl : xs.length ≤ 1048576) : Calls Try.prog 3 #[.int .i64 r1, .int .i64 r2, s] w fun e w' => e = .returned (.bool true) ∧ Below w.heap.size w w' := by
  have HS := hid hs
  have HDL := hid hd
  obtain ⟨so0, sc, hsf, _⟩ := hs
  subst hsf
  have C0 := hid (shown_any (All.came w))
  have hin : Hid (inC w ∈ [inC w]) := hid (by simp)
  generalize hcs : [inC w] = cs at C0 hin
  obtain ⟨n, hn⟩ : ∃ n, Hid (n = xs.length) := ⟨_, hid rfl⟩
  rw [← hn.out] at HS hl ⊢
  clear hd
  go_enter Try.func3, Try.ntmps3
  go_wp2_with fail
  refine C0.out.mono ?_
  rintro e w0 ⟨rfl, A0⟩
  have C1 := hid (begun_any (r := r1) A0)
  clear C0 A0
  go_wp2_with fail
  refine C1.out.mono ?_
  rintro e w1 ⟨p0, rfl, hp0, A1⟩
  have C2 := hid (begun_any (r := r2) A1)
  clear C1 A1
  go_wp2_with fail
  refine C2.out.mono ?_
  rintro e w2 ⟨q0, rfl, hq0, A2⟩
  have W0 : Hid (Wk (w2.alloc (.cells #[.slice none 0 0, .slice none 0 0] 30)) w2.heap.size 0 0 p0 q0 cs) := hid (by
    have A3 := A2.addBlk [.slice none 0 0, .slice none 0 0] 30
    have A4 : All (poolC [] :: (boxC w2.heap.size (.slice none 0 0) (.slice none 0 0) :: (pL q0 ++ (pL p0 ++ cs)))) (w2.alloc (.cells #[.slice none 0 0, .slice none 0 0] 30)) := All.pool0 A3
    refine ⟨[], hp0, hq0, (Hd.begin A4.swap).perm (perm_swap3 _ _ _ _)⟩)
  clear C2 A2 hp0 hq0
  obtain ⟨B0, hB0⟩ : ∃ v, Hid (v = pB p0) := ⟨_, hid rfl⟩
  obtain ⟨D0, hD0⟩ : ∃ v, Hid (v = pD p0) := ⟨_, hid rfl⟩
  obtain ⟨C0, hC0⟩ : ∃ v, Hid (v = pB q0) := ⟨_, hid rfl⟩
  obtain ⟨E0, hE0⟩ : ∃ v, Hid (v = pD q0) := ⟨_, hid rfl⟩
  rw [← hB0.out, ← hD0.out, ← hC0.out, ← hE0.out]
  go_wp2
  generalize w2.heap.size = S0 at *
  go_loopw [7, 8, 10, 11, 14] (fun bv dv cv ev iv wr => ∃ (p q : Option (Bg × Bg)) (i : Nat), i ≤ n ∧ bv = pB p ∧ dv = pD p ∧ cv = pB q ∧ ev = pD q ∧ iv = .int .i64 (i : Int) ∧ Hid (Wk wr S0 (8192 * i) i p q cs)) (fun _ _ _ _ iv _ => n - (intOf iv).toNat)
  case atStart => exact ⟨p0, q0, 0, by omega, hB0.out, hD0.out, hC0.out, hE0.out, rfl, W0⟩
  case round =>
    clear W0 hB0 hD0 hC0 hE0
    obtain ⟨p, q, i, hi, hbv, hdv, hcv, hev, rfl, W⟩ := hrel
    replace hbv := hid hbv
    replace hdv := hid hdv
    replace hcv := hid hcv
    replace hev := hid hev
    by_cases hlt : i < n
    · obtain ⟨x, hx⟩ : ∃ x, xs[i]? = some x := ⟨_, List.getElem?_eq_getElem (by rw [← hn.out]; exact hlt)⟩
      obtain ⟨g, go, eg, hg, ⟨s1, s2, s3, s4, s5, s6⟩, -, -⟩ := (HS.out.later (W.out.into hin.out)).at hx
      subst eg
      have HRX : Hid (Reads w (.slice x.ao x.o.d.length x.c) x.o.d ∧ x.o.d.length ≤ 1048576) := hid (by
        obtain ⟨_, _, _, _, _, hrr, _⟩ := HS.out.at hx
        exact ⟨hrr, HDL.out x (List.mem_of_getElem? hx)⟩)
      have hii : (i : Int) < (n : Int) := by omega
      obtain ⟨⟨so, ko, a, b, y, d⟩, ao, c⟩ := x
      simp only at s1 s2 s3 s4 s5 s6 HRX
      clear hx
      have W := hid (W.out.addBlk [.bool so, .int .i64 ko, .int .i64 a, .int .i64 b, .int .i64 y, .slice ao d.length c] 33)
      cases so
      · rcases p with _ | ⟨B, D⟩
        · have hb1 := hbv.out
          have hd1 := hdv.out
          simp only [pB] at hb1
          simp only [pD] at hd1
          subst hb1 hd1
          by_cases k8 : ko = 8
          · subst k8
            go_wp2
            go_roundw
            case rel => exact ⟨none, q, i + 1, by omega, rfl, rfl, hcv.out, hev.out, by go_num, hid ((W.out.drop).more (by omega) (by omega))⟩
            case measure => simp [intOf]; omega
          · go_wp2
            go_roundw
            case rel => exact ⟨none, q, i + 1, by omega, rfl, rfl, hcv.out, hev.out, by go_num, hid ((W.out.drop).more (by omega) (by omega))⟩
            case measure => simp [intOf]; omega
        · have hb1 := hbv.out
          have hd1 := hdv.out
          simp only [pB, Bg.V] at hb1
          simp only [pD, Bg.V] at hd1
          by_cases k8 : ko = 8
          · subst k8
            subst hb1 hd1
            have C1 := hid (W.out.clone)
            clear W HRX
            go_wp2_with fail
            refine C1.out.mono ?_
            rintro e w2 ⟨C, rfl, W2⟩
            have C2 := hid W2.clone
            clear C1 W2
            go_wp2_with fail
            refine C2.out.mono ?_
            rintro e w3 ⟨E, rfl, W4⟩
            have W4 := hid W4
            clear C2
            go_wp2
            go_roundw
            case rel => exact ⟨some (B, D), some (C, E), i + 1, by omega, rfl, rfl, rfl, rfl, by go_num, hid (W4.out.drop.more (by omega) (by omega))⟩
            case measure => simp [intOf]; omega
          · subst hb1 hd1
            have C1 := hid (Wk.changes (w0 := w) (o := ⟨false, ko, a, b, y, d⟩) (ao := ao) (c := c) (W.out) (by simp [hin.out]) (by omega) (by omega) HRX.out.1 HRX.out.2)
            simp only [Bg.V] at C1
            clear W HRX
            go_wp2_with fail
            refine C1.out.mono ?_
            rintro e w2 ⟨rfl, B1, D1, b1, d1, W2⟩
            clear C1 s1 s2 s3 s4 s5 s6
            have hK := W2.blk
            have t0 : w2.cell? ⟨wr.heap.size, 0, none⟩ = some (.bool false) := by rw [cell_at hK]; rfl
            have t1 : w2.cell? ⟨wr.heap.size, 1, none⟩ = some (.int .i64 ko) := by rw [cell_at hK]; rfl
            have t2 : w2.cell? ⟨wr.heap.size, 2, none⟩ = some (.int .i64 a) := by rw [cell_at hK]; rfl
            have t3 : w2.cell? ⟨wr.heap.size, 3, none⟩ = some (.int .i64 b) := by rw [cell_at hK]; rfl
            have t4 : w2.cell? ⟨wr.heap.size, 4, none⟩ = some (.int .i64 y) := by rw [cell_at hK]; rfl
            have t5 : w2.cell? ⟨wr.heap.size, 5, none⟩ = some (.slice ao d.length c) := by rw [cell_at hK]; rfl
            have C2 := hid (Wk.tells (w0 := w) (o := ⟨false, ko, a, b, y, d⟩) (ao := ao) (c := c) W2 (by omega) (by omega))
            simp only [Bg.V, b1, d1] at C2
            clear W2 hK
            go_wp2_with fail
            refine C2.out.mono ?_
            rintro e w3 ⟨rfl, B2, D2, b2, d2, W3⟩
            have C3 := hid (W3.holds (by omega))
            clear C2 W3 t0 t1 t2 t3 t4 t5
            go_wp2_with fail
            refine C3.out.mono ?_
            rintro e w4 ⟨rfl, W4⟩
            have W4 := hid W4
            have HV : Hid (Value.pointer (some ⟨B.b, 0, none⟩) = pB (some (B2, D2)) ∧ Value.pointer (some ⟨D.b, 0, none⟩) = pD (some (B2, D2))) := hid (by simp only [pB, pD, Bg.V, b2, d2]; exact ⟨trivial, trivial⟩)
            clear C3 b1 d1 b2 d2
            go_wp2
            go_roundw
            case rel => exact ⟨some (B2, D2), q, i + 1, by omega, HV.out.1, HV.out.2, hcv.out, hev.out, by go_num, hid (W4.out.drop.more (by omega) (by omega))⟩
            case measure => simp [intOf]; omega
      · rcases q with _ | ⟨B, D⟩
        · have hb1 := hcv.out
          have hd1 := hev.out
          simp only [pB] at hb1
          simp only [pD] at hd1
          subst hb1 hd1
          by_cases k8 : ko = 8
          · subst k8
            go_wp2
            go_roundw
            case rel => exact ⟨p, none, i + 1, by omega, hbv.out, hdv.out, rfl, rfl, by go_num, hid ((W.out.drop).more (by omega) (by omega))⟩
            case measure => simp [intOf]; omega
          · go_wp2
            go_roundw
            case rel => exact ⟨p, none, i + 1, by omega, hbv.out, hdv.out, rfl, rfl, by go_num, hid ((W.out.drop).more (by omega) (by omega))⟩
            case measure => simp [intOf]; omega
        · have hb1 := hcv.out
          have hd1 := hev.out
          simp only [pB, Bg.V] at hb1
          simp only [pD, Bg.V] at hd1
          by_cases k8 : ko = 8
          · subst k8
            subst hb1 hd1
            have C1 := hid (W.out.swap.clone)
            clear W HRX
            go_wp2_with fail
            refine C1.out.mono ?_
            rintro e w2 ⟨C, rfl, W2⟩
            have C2 := hid W2.clone
            clear C1 W2
            go_wp2_with fail
            refine C2.out.mono ?_
            rintro e w3 ⟨E, rfl, W4⟩
            have W4 := hid W4
            clear C2
            go_wp2
            go_roundw
            case rel => exact ⟨some (C, E), some (B, D), i + 1, by omega, rfl, rfl, rfl, rfl, by go_num, hid (W4.out.drop.swap.more (by omega) (by omega))⟩
            case measure => simp [intOf]; omega
          · subst hb1 hd1
            have C1 := hid (Wk.changes (w0 := w) (o := ⟨true, ko, a, b, y, d⟩) (ao := ao) (c := c) (W.out.swap) (by simp [hin.out]) (by omega) (by omega) HRX.out.1 HRX.out.2)
            simp only [Bg.V] at C1
            clear W HRX
            go_wp2_with fail
            refine C1.out.mono ?_
            rintro e w2 ⟨rfl, B1, D1, b1, d1, W2⟩
            clear C1 s1 s2 s3 s4 s5 s6
            have hK := W2.blk
            have t0 : w2.cell? ⟨wr.heap.size, 0, none⟩ = some (.bool true) := by rw [cell_at hK]; rfl
            have t1 : w2.cell? ⟨wr.heap.size, 1, none⟩ = some (.int .i64 ko) := by rw [cell_at hK]; rfl
            have t2 : w2.cell? ⟨wr.heap.size, 2, none⟩ = some (.int .i64 a) := by rw [cell_at hK]; rfl
            have t3 : w2.cell? ⟨wr.heap.size, 3, none⟩ = some (.int .i64 b) := by rw [cell_at hK]; rfl
            have t4 : w2.cell? ⟨wr.heap.size, 4, none⟩ = some (.int .i64 y) := by rw [cell_at hK]; rfl
            have t5 : w2.cell? ⟨wr.heap.size, 5, none⟩ = some (.slice ao d.length c) := by rw [cell_at hK]; rfl
            have C2 := hid (Wk.tells (w0 := w) (o := ⟨true, ko, a, b, y, d⟩) (ao := ao) (c := c) W2 (by omega) (by omega))
            simp only [Bg.V, b1, d1] at C2
            clear W2 hK
            go_wp2_with fail
            refine C2.out.mono ?_
            rintro e w3 ⟨rfl, B2, D2, b2, d2, W3⟩
            have C3 := hid (W3.holds (by omega))
            clear C2 W3 t0 t1 t2 t3 t4 t5
            go_wp2_with fail
            refine C3.out.mono ?_
            rintro e w4 ⟨rfl, W4⟩
            have W4 := hid W4
            have HV : Hid (Value.pointer (some ⟨B.b, 0, none⟩) = pB (some (B2, D2)) ∧ Value.pointer (some ⟨D.b, 0, none⟩) = pD (some (B2, D2))) := hid (by simp only [pB, pD, Bg.V, b2, d2]; exact ⟨trivial, trivial⟩)
            clear C3 b1 d1 b2 d2
            go_wp2
            go_roundw
            case rel => exact ⟨p, some (B2, D2), i + 1, by omega, hbv.out, hdv.out, HV.out.1, HV.out.2, by go_num, hid (W4.out.drop.swap.more (by omega) (by omega))⟩
            case measure => simp [intOf]; omega
    · have hii : ¬ (i : Int) < (n : Int) := by omega
      have C1 := hid (W.out.spoil (by omega))
      clear W
      go_wp2_with fail
      refine C1.out.mono ?_
      rintro e w2 ⟨rfl, Z⟩
      clear C1
      rcases p with _ | ⟨B, D⟩
      · have hb1 := hbv.out
        have hd1 := hdv.out
        simp only [pB] at hb1
        simp only [pD] at hd1
        subst hb1 hd1
        rcases q with _ | ⟨F, G⟩
        · have hb1 := hcv.out
          have hd1 := hev.out
          simp only [pB] at hb1
          simp only [pD] at hd1
          subst hb1 hd1
          have BW := hid (Z.into hin.out)
          clear Z
          go_wp2
          go_ret
          exact ⟨rfl, BW.out⟩
        · have hb1 := hcv.out
          have hd1 := hev.out
          simp only [pB, Bg.V] at hb1
          simp only [pD, Bg.V] at hd1
          subst hb1 hd1
          have C5 := hid Z.swap.lists
          simp only [Bg.V] at C5
          clear Z
          go_wp2_with fail
          refine C5.out.mono ?_
          rintro e w6 ⟨v5, rfl, C6⟩
          clear C5
          go_wp2_with fail
          refine C6.out.mono ?_
          rintro e w7 ⟨v6, rfl, C7⟩
          clear C6
          go_wp2_with fail
          refine C7.out.mono ?_
          rintro e w8 ⟨rfl, Z⟩
          have BW := hid (Z.into hin.out)
          clear C7 Z
          go_wp2
          go_ret
          exact ⟨rfl, BW.out⟩
      · have hb1 := hbv.out
        have hd1 := hdv.out
        simp only [pB, Bg.V] at hb1
        simp only [pD, Bg.V] at hd1
        subst hb1 hd1
        have C2 := hid Z.lists
        simp only [Bg.V] at C2
        clear Z
        go_wp2_with fail
        refine C2.out.mono ?_
        rintro e w3 ⟨v1, rfl, C3⟩
        clear C2
        go_wp2_with fail
        refine C3.out.mono ?_
        rintro e w4 ⟨v2, rfl, C4⟩
        clear C3
        go_wp2_with fail
        refine C4.out.mono ?_
        rintro e w5 ⟨rfl, Z⟩
        clear C4
        rcases q with _ | ⟨F, G⟩
        · have hb1 := hcv.out
          have hd1 := hev.out
          simp only [pB] at hb1
          simp only [pD] at hd1
          subst hb1 hd1
          have BW := hid (Z.into hin.out)
          clear Z
          go_wp2
          go_ret
          exact ⟨rfl, BW.out⟩
        · have hb1 := hcv.out
          have hd1 := hev.out
          simp only [pB, Bg.V] at hb1
          simp only [pD, Bg.V] at hd1
          subst hb1 hd1
          have C5 := hid Z.swap.lists
          simp only [Bg.V] at C5
          clear Z
          go_wp2_with fail
          refine C5.out.mono ?_
          rintro e w6 ⟨v5, rfl, C6⟩
          clear C5
          go_wp2_with fail
          refine C6.out.mono ?_
          rintro e w7 ⟨v6, rfl, C7⟩
          clear C6
          go_wp2_with fail
          refine C7.out.mono ?_
          rintro e w8 ⟨rfl, Z⟩
          have BW := hid (Z.into hin.out)
          clear C7 Z
          go_wp2
          go_ret
          exact ⟨rfl, BW.out⟩
end Go.Proofs.Ytpfpamkbahgkpaa

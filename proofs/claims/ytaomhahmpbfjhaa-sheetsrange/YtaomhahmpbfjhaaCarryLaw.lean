import Derived.Test.YtaomhahmpbfjhaaCarry
namespace Go.Proofs.Ytaomhahmpbfjhaa
open Go.RowKit
set_option linter.unusedVariables false

/-- One act's cells in a later world. -/
theorem act_at {w wr : World} {ao : Option Addr} {c i : Nat} {xs : List Ac} (h : ActsAt w (.slice ao xs.length c) xs) (hb : Below w.heap.size w wr) (hi : i < xs.length) :
    ∃ (x : Ac) (b o : Nat), ao = some ⟨b, o, none⟩ ∧ b < wr.heap.size ∧ wr.cell? ⟨b, o + i * 6, none⟩ = some (.int .i64 x.kind) ∧ wr.cell? ⟨b, o + i * 6 + 1, none⟩ = some (.int .i64 x.book) ∧ wr.cell? ⟨b, o + i * 6 + 2, none⟩ = some (.int .i64 x.num) ∧ wr.cell? ⟨b, o + i * 6 + 3, none⟩ = some (.int .i64 x.at_) ∧ wr.cell? ⟨b, o + i * 6 + 4, none⟩ = some (.slice x.d1 x.d2 x.d3) ∧ wr.cell? ⟨b, o + i * 6 + 5, none⟩ = some (.slice x.l1 x.l2 x.l3) ∧ Reads wr (.slice x.d1 x.d2 x.d3) x.data := by
  obtain ⟨x, hxi⟩ : ∃ x, xs[i]? = some x := ⟨_, List.getElem?_eq_getElem hi⟩
  obtain ⟨b, o, rfl, hbl, hcell, hrd⟩ := h.at hb hxi
  exact ⟨x, b, o, rfl, Nat.lt_of_lt_of_le hbl hb.size, hcell 0 _ rfl, hcell 1 _ rfl, hcell 2 _ rfl, hcell 3 _ rfl, hcell 4 _ rfl, hcell 5 _ rfl, hrd⟩

set_option maxRecDepth 100000 in
set_option maxHeartbeats 8000000 in
theorem carry_walk {w : World} {n : Int} {v u : Value} {xs zs : List Ac} (hx : ActsAt w v xs) (hz : ActsAt w u zs) (hlen : xs.length ≤ maxLen) (hlen2 : zs.length ≤ maxLen) : Calls Try.prog 5 #[.int .i64 n, v, u] w fun e w' => e = .returned (.bool true) ∧ Below w.heap.size w w' := by
  obtain ⟨ao, c, rfl⟩ := hx.form
  obtain ⟨ao2, c2, rfl⟩ := hz.form
  by_cases hb : n < 1 ∨ n > 64
  · have H := hid (New_bad (w := w) hb)
    by_cases h1 : n < 1
    · have d1 : decide (n < 1) = true := by simpa using h1
      generalize xs.length = xl at *
      generalize zs.length = zl at *
      clear hx hz hb
      go_enter Try.func5, Try.ntmps5
      go_wp2_with (go_at_call 7; refine H.out.mono ?_; rintro e w' ⟨rfl, rfl⟩)
      go_ret
      exact ⟨rfl, Below.refl _ _⟩
    · have d1 : decide (n < 1) = false := by simpa using h1
      have d2 : n > 64 := by omega
      generalize xs.length = xl at *
      generalize zs.length = zl at *
      clear hx hz hb
      go_enter Try.func5, Try.ntmps5
      go_wp2_with (go_at_call 7; refine H.out.mono ?_; rintro e w' ⟨rfl, rfl⟩)
      go_ret
      exact ⟨rfl, Below.refl _ _⟩
  obtain ⟨m, rfl⟩ : ∃ m : Nat, n = m := ⟨n.toNat, by omega⟩
  have hm1 : 1 ≤ m := by omega
  have hm2 : m ≤ 64 := by omega
  have H := hid (New_all (All.came w).pool0 hm1 hm2)
  have HX := hid hx
  have HL := hid hlen
  have HZ := hid hz
  have HL2 := hid hlen2
  have HM := hid (show 1 ≤ m ∧ m ≤ 64 from ⟨hm1, hm2⟩)
  have d1 : ¬ (m : Int) < 1 := by omega
  have d2 : ¬ (m : Int) > 64 := by omega
  obtain ⟨xl, hxl⟩ : ∃ xl, Hid (xl = xs.length) := ⟨_, hid rfl⟩
  obtain ⟨zl, hzl⟩ : ∃ zl, Hid (zl = zs.length) := ⟨_, hid rfl⟩
  rw [← hxl.out, ← hzl.out]
  clear hx hlen hz hlen2 hb hm1 hm2
  go_enter Try.func5, Try.ntmps5
  go_wp2_with fail
  go_at_call 7
  refine H.out.mono ?_
  rintro e w1 ⟨g, rfl, Q, lv, ps, N, A1, B1, _⟩
  have hr : Reads (w1.alloc (.cells #[.int .u8 120] 5 (1, 2))) (.slice (some ⟨w1.heap.size, 0, none⟩) 1 1) [120] := by
    refine ⟨_, 1, rfl, by simp, Or.inr ⟨w1.heap.size, 0, rfl, by simp, fun j u hu => ?_⟩⟩
    rw [cell_at (heap_alloc_new w1 _), Nat.zero_add]
    simpa [cellsB] using hu
  have P1 : Hid (Calls Try.prog 12 #[.pointer (some ⟨g, 0, none⟩), .int .i64 0, .int .i64 1, .slice (some ⟨w1.heap.size, 0, none⟩) 1 1] (w1.alloc (.cells #[.int .u8 120] 5 (1, 2))) fun e w' => e = .returned (.int .i64 0) ∧ Hid (∃ S, Has [] g m [inC w] S w')) := hid ((Put_all (num := 0) (at_ := 1) (A1.alloc _) B1 hr).mono (fun e w' hq => by
    obtain ⟨rfl, Q', lv', ps', N', a1, a2, a3⟩ := hq
    exact ⟨by rw [put_first HM.out.1], hid ⟨_, Q', lv', ps', N', a1, a2, fun x hx => by cases hx⟩⟩))
  have kc : (convert 36 36 (.slice (some ⟨w1.heap.size, 0, none⟩) 1 1)).run Try.prog (w1.alloc (.cells #[.int .u8 120] 5)) = .ok (.slice (some ⟨w1.heap.size, 0, none⟩) 1 1) (w1.alloc (.cells #[.int .u8 120] 5 (1, 2))) := Lib.run_convert_bytes_const (P := Try.prog) w1 36 5 #[.int .u8 120] 1 1 Try.underlying36 Try.underlying5
  clear A1 B1 H hr
  go_wp2_with (go_at_call 12; refine P1.out.mono ?_; rintro e w3 ⟨rfl, h3⟩)
  clear P1 kc
  go_loopw [10, 52, 53, 54, 55, 56, 57, 58, 59, 60, 61, 62, 63, 64] (fun p10 p52 p53 p54 p55 p56 p57 p58 p59 p60 p61 p62 p63 p64 wr => ∃ i : Nat, p52 = .int .i64 i ∧ i ≤ xl ∧ Hid (∃ S, Has [] g m [inC w] S wr))
    (fun p10 p52 p53 p54 p55 p56 p57 p58 p59 p60 p61 p62 p63 p64 _ => match p52 with | .int _ i => (xl - i).toNat | _ => 0)
  case atStart => exact ⟨0, rfl, by omega, h3⟩
  case round =>
    obtain ⟨i, rfl, hi, hS⟩ := hrel
    by_cases hc : (i : Int) < (xl : Int)
    · obtain ⟨S, Q1, lv1, ps1, N1, A1, B1, _⟩ := hS.out
      have hbel : Below w.heap.size w wr := A1.into (by simp)
      obtain ⟨x, b, o, rfl, hbw, c0, c1, c2, c3, c4, c5, hrd⟩ := act_at HX.out hbel (i := i) (by rw [← hxl.out]; omega)
      have PP := hid ((Put_all (num := x.num) (at_ := x.at_) (A1.alloc (.cells #[.int .i64 x.kind, .int .i64 x.book, .int .i64 x.num, .int .i64 x.at_, .slice x.d1 x.d2 x.d3, .slice x.l1 x.l2 x.l3] 39)) B1 (hrd.below (ba wr _))).mono (fun e w' (hq : _ ∧ _) => (⟨⟨_, hq.1⟩, by
        obtain ⟨Q', lv', ps', N', a1, a2, a3⟩ := hq.2
        exact hid ⟨_, Q', lv', ps', N', a1, a2, fun x hx => by cases hx⟩⟩ : (∃ k : Int, e = .returned (.int .i64 k)) ∧ Hid (∃ S, Has [] g m [inC w] S w'))))
      have wi : IntKind.i64.wrap ((i : Int) + 1) = ((i + 1 : Nat) : Int) := by
        have := HL.out
        have := hxl.out
        unfold maxLen at *
        rw [IntKind.wrap_i64]; omega
      clear A1 B1 hS h3 hrd hbel
      go_wp2_with (go_at_call 12; refine PP.out.mono ?_; rintro e w4 ⟨⟨k, rfl⟩, h4⟩)
      go_roundw
      case rel => exact ⟨i + 1, rfl, by omega, h4⟩
      case measure => simp only; omega
    · obtain ⟨S0, Q1, lv1, ps1, N1, A1, B1, _⟩ := hS.out
      have SN : Hid (Calls Try.prog 17 #[.pointer (some ⟨g, 0, none⟩)] wr fun e w' => ∃ g2, e = .returned (.pointer (some ⟨g2, 0, none⟩)) ∧ Hid (Two w g g2 m S0 S0 w')) := hid ((Snap_all A1 B1).mono (fun e w' hq => by
        obtain ⟨g2, rfl, A2⟩ := hq
        exact ⟨g2, rfl, hid ⟨Q1, lv1, ps1, N1, lv1, ps1, N1, A2, B1, B1⟩⟩))
      have hle : Hid (∀ i, (S0 i).1 ≤ lastS S0 m) := hid B1.le_last
      clear A1 B1 hS h3
      go_wp2_with fail
      go_at_call 17
      refine SN.out.mono ?_
      rintro e w5 ⟨g2, rfl, h5⟩
      have LA := hid h5.out.last2
      have T0 : Hid (∃ S, Mixed S0 S (lastS S0 m) ∧ Two w g g2 m S S0 w5) := hid ⟨S0, fun i => .inl rfl, h5.out⟩
      obtain ⟨sc, hsc⟩ : ∃ sc, Hid (sc = lastS S0 m) := ⟨_, hid rfl⟩
      rw [← hsc.out] at LA T0 hle
      clear SN h5
      go_wp2_with (go_at_call 18; refine LA.out.mono ?_; rintro e w' ⟨rfl, hw'⟩; subst hw')
      clear LA
      go_loopw [14, 73, 74, 75, 76, 77, 78, 79, 80, 81, 82, 83, 84, 85, 86, 87, 88, 89] (fun p14 p73 p74 p75 p76 p77 p78 p79 p80 p81 p82 p83 p84 p85 p86 p87 p88 p89 wr => ∃ i : Nat, p73 = .int .i64 i ∧ i ≤ zl ∧ Hid (∃ S, Mixed S0 S sc ∧ Two w g g2 m S S0 wr))
        (fun p14 p73 p74 p75 p76 p77 p78 p79 p80 p81 p82 p83 p84 p85 p86 p87 p88 p89 _ => match p73 with | .int _ i => (zl - i).toNat | _ => 0)
      case atStart => exact ⟨0, rfl, by omega, T0⟩
      case round =>
        obtain ⟨i2, rfl, hi2, hS2⟩ := hrel
        by_cases hc2 : (i2 : Int) < (zl : Int)
        · obtain ⟨S, hM, hT⟩ := hS2.out
          obtain ⟨x, b, o, rfl, hbw, c0, c1, c2, c3, c4, c5, hrd⟩ := act_at HZ.out hT.into (i := i2) (by rw [← hzl.out]; omega)
          have wi : IntKind.i64.wrap ((i2 : Int) + 1) = ((i2 + 1 : Nat) : Int) := by
            have := HL2.out
            have := hzl.out
            unfold maxLen at *
            rw [IntKind.wrap_i64]; omega
          by_cases hat : x.at_ > (sc : Int)
          · have PP := hid (((hT.later (ba wr (.cells #[.int .i64 x.kind, .int .i64 x.book, .int .i64 x.num, .int .i64 x.at_, .slice x.d1 x.d2 x.d3, .slice x.l1 x.l2 x.l3] 39))).put (num := x.num) (at_ := x.at_) (hrd.below (ba wr _))).mono (fun e w' (hq : _ ∧ _) => (⟨⟨_, hq.1⟩, hid ⟨_, hM.put hat, hq.2⟩⟩ : (∃ k : Int, e = .returned (.int .i64 k)) ∧ Hid (∃ S, Mixed S0 S sc ∧ Two w g g2 m S S0 w'))))
            clear hS2 hM hT T0 hrd
            go_wp2_with (go_at_call 12; refine PP.out.mono ?_; rintro e w4 ⟨⟨k, rfl⟩, h4⟩)
            go_roundw
            case rel => exact ⟨i2 + 1, rfl, by omega, h4⟩
            case measure => simp only; omega
          · have N2 : Hid (∃ S, Mixed S0 S sc ∧ Two w g g2 m S S0 (wr.alloc (.cells #[.int .i64 x.kind, .int .i64 x.book, .int .i64 x.num, .int .i64 x.at_, .slice x.d1 x.d2 x.d3, .slice x.l1 x.l2 x.l3] 39))) := hid ⟨S, hM, hT.later (ba wr _)⟩
            clear hS2 hM hT T0 hrd
            go_wp2
            go_roundw
            case rel => exact ⟨i2 + 1, rfl, by omega, N2⟩
            case measure => simp only; omega
        · obtain ⟨S, hM, hT⟩ := hS2.out
          have L2 := hid hT.last2
          rw [← hsc.out] at L2
          have CR := hid (hT.carry hM hle.out)
          clear hS2 hM hT T0 hsc hle
          go_wp2_with fail
          go_at_call 18
          refine L2.out.mono ?_
          rintro e w6 ⟨rfl, hw6⟩
          subst hw6
          clear L2
          go_wp2_with fail
          go_at_call 20
          refine CR.out.mono ?_
          rintro e w7 ⟨a7, k7, c7, rfl, hAp⟩
          go_wp2_with fail
          go_at_call 19
          refine hAp.out.mono ?_
          rintro e w8 ⟨rfl, hT8⟩
          have LB := hid hT8.last2
          have LC := hid hT8.last1
          have HT := hid hT8
          generalize lastS S m = lb at LB LC
          clear CR hAp hT8
          go_wp2_with fail
          go_at_call 18
          refine LB.out.mono ?_
          rintro e w9 ⟨rfl, hw9⟩
          subst hw9
          go_wp2_with fail
          go_at_call 18
          refine LC.out.mono ?_
          rintro e w10 ⟨rfl, hw10⟩
          subst hw10
          clear LB LC
          go_wp2
          go_loopw [15, 16, 17, 18, 19, 20, 21, 110, 111, 112, 113, 114, 115, 116, 117, 118, 119, 120, 121, 122, 123, 124, 125, 126, 127, 128, 129, 130, 131, 132, 133, 134, 135, 136, 137, 138, 139, 140, 141, 142, 143, 144] (fun p15 p16 p17 p18 p19 p20 p21 p110 p111 p112 p113 p114 p115 p116 p117 p118 p119 p120 p121 p122 p123 p124 p125 p126 p127 p128 p129 p130 p131 p132 p133 p134 p135 p136 p137 p138 p139 p140 p141 p142 p143 p144 wr => ∃ i : Nat, p110 = .int .i64 i ∧ i ≤ m ∧ Hid (Two w g g2 m S S wr))
            (fun p15 p16 p17 p18 p19 p20 p21 p110 p111 p112 p113 p114 p115 p116 p117 p118 p119 p120 p121 p122 p123 p124 p125 p126 p127 p128 p129 p130 p131 p132 p133 p134 p135 p136 p137 p138 p139 p140 p141 p142 p143 p144 _ => match p110 with | .int _ i => (m - i).toNat | _ => 0)
          case atStart => exact ⟨0, rfl, by omega, HT⟩
          case round =>
            obtain ⟨i3, rfl, hi3, hT3⟩ := hrel
            by_cases hc3 : (i3 : Int) < (m : Int)
            · have GG := hid (hT3.out.gets (i := i3) (by omega))
              have wi : IntKind.i64.wrap ((i3 : Int) + 1) = ((i3 + 1 : Nat) : Int) := by have := HM.out; rw [IntKind.wrap_i64]; omega
              generalize (S i3).1 = st at GG
              generalize (S i3).2.length = ln at GG
              clear hT3 HT
              go_wp2_with fail
              go_at_call 21
              refine GG.out.mono ?_
              rintro e w11 ⟨a11, c11, rfl, G2⟩
              go_wp2_with fail
              go_at_call 21
              refine G2.out.mono ?_
              rintro e w12 ⟨a12, c12, rfl, G3⟩
              go_wp2_with fail
              go_at_call 22
              refine G3.out.mono ?_
              rintro e w13 ⟨rfl, hT13⟩
              have hT13 := hid hT13
              clear GG G2 G3
              go_wp2
              go_roundw
              case rel => exact ⟨i3 + 1, rfl, by omega, hT13⟩
              case measure => simp only; omega
            · have CC := hid (hT3.out.counts (sc := sc))
              generalize (newS S sc (List.range m)).length = ln at CC
              clear hT3 HT
              go_wp2_with fail
              go_at_call 20
              refine CC.out.mono ?_
              rintro e w11 ⟨a11, c11, rfl, C2⟩
              go_wp2_with fail
              go_at_call 20
              refine C2.out.mono ?_
              rintro e w12 ⟨⟨a12, c12, rfl⟩, hb12⟩
              have hb12 := hid hb12
              clear CC C2
              go_wp2
              go_ret
              exact ⟨by simp, hb12.out⟩

end Go.Proofs.Ytaomhahmpbfjhaa

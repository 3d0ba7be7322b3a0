import Derived.Test.YtdhkdniddjnigaaGreatDoorSpl
namespace Go.Proofs.YtdhkdniddjnigaaGreatDoor
open Go.RowKit
set_option linter.unusedVariables false

set_option maxRecDepth 1000000 in
theorem Split_long {l : List UInt8} {cs : List Comp} {w : World} (h : All cs w) (hl : 8192 < l.length) (hl2 : l.length ≤ 140737488355328) :
    Calls Tryz.prog 121 #[.string ⟨l.toArray⟩] w (SplitPost .long cs) := by
  have hz : (⟨l.toArray⟩ : ByteArray).size = l.length := by simp [ByteArray.size]
  have A := hid (All.addNil (e := 9) h)
  clear h
  generalize ByteArray.mk l.toArray = S at *
  generalize l.length = n at *
  have hl' : (8192 : Int) < n := by omega
  go_enter Tryz.func121, Tryz.ntmps121
  go_wp2
  go_step3
  go_wp2
  simp only [Exit.noGoto]
  go_ret3
  exact ⟨_, rfl, A.out⟩

/-- The reader as it begins. -/
theorem rd_new {cs : List Comp} {w : World} (h : All cs w) : RdAt w.heap.size .ahead [] cs (w.alloc (.cells #[.int .i64 0, .slice none 0 0, .slice none 0 0, .int .i64 0, .int .i64 0, .int .u8 0] 209)) := by
  refine ⟨0, .slice none 0 0, .slice none 0 0, 0, 0, 0, [], rfl, ?_⟩
  have A := (All.addNil (e := 9) (All.addNil (e := 5) h)).addBlk (rdV 0 (.slice none 0 0) (.slice none 0 0) 0 0 0) 209
  exact A

set_option maxHeartbeats 3200000 in
set_option maxRecDepth 1000000 in
theorem Split_short {l : List UInt8} {cs : List Comp} {w : World} (h : All cs w) (hl : l.length ≤ 8192) :
    Calls Tryz.prog 121 #[.string ⟨l.toArray⟩] w (SplitPost (runW .ahead [] 0 l) cs) := by
  have hz : (⟨l.toArray⟩ : ByteArray).size = l.length := by simp [ByteArray.size]
  have IX : Hid (∀ k, k < l.length → ∀ W, (Instr.index 9 (.string ⟨l.toArray⟩) (.int .i64 (k : Int))).run Tryz.prog W = .ok (.int .u8 ((l.getD k 0).toNat : Int)) W) := fun k hk W => idx_at hk W
  have N := hid (rd_new h)
  have R0 : Hid (runW .ahead [] 0 l = runW .ahead [] 0 (l.drop 0)) := hid (by simp)
  generalize hA : runW .ahead [] 0 l = AN at *
  clear hA h
  generalize ByteArray.mk l.toArray = S at *
  generalize hn : l.length = n at *
  have HN := hid hn
  clear hn
  have hl' : ¬ (8192 : Int) < n := by omega
  go_enter Tryz.func121, Tryz.ntmps121
  go_wp2
  go_step3
  go_wp2
  go_step3
  go_wp2
  go_loopw [6, 14] (fun gv iv wr => ∃ (k : Nat) (s : St) (ws : Ws), k ≤ n ∧ iv = .int .i64 (k : Int) ∧ gv = .int .i64 (-1) ∧ Hid (RdAt w.heap.size s ws cs wr) ∧ Hid (AN = runW s ws k (l.drop k)) ∧ Hid (s.held + wsz ws ≤ 2 * k)) (fun _ iv _ => n - (intOf iv).toNat)
  case atStart => exact ⟨0, .ahead, [], by omega, rfl, rfl, N, R0, hid (by simp [St.held, wsz])⟩
  case round =>
    obtain ⟨k, s, ws, hk, rfl, rfl, hR, hrun, hheld⟩ := hrel
    have hws : ws.length + 1 ≤ 1000000000000 := by have := hheld.out; unfold wsz at this; omega
    have hsh : s.held ≤ 140737488355328 := by have := hheld.out; omega
    by_cases hlt : k < n
    · have hlt' : (k : Int) < (n : Int) := by omega
      have ix := IX.out k hlt
      generalize hb : l.getD k 0 = b at ix
      have HB := hid hb
      clear hb
      have NX : Hid (∀ s' ws', stepW s ws k b = .go s' ws' → Hid (AN = runW s' ws' (k + 1) (l.drop (k + 1))) ∧ Hid (s'.held + wsz ws' ≤ 2 * (k + 1))) := hid (fun s' ws' hst => ⟨hid (by rw [hrun.out]; exact runW_go (by rw [HN.out]; exact hlt) (by rw [HB.out]; exact hst)), hid (by have := stepW_held hst; have := hheld.out; omega)⟩)
      have BD : Hid (∀ j, stepW s ws k b = .bad j → Hid (AN = .byte j)) := hid (fun j hst => hid (by rw [hrun.out]; exact runW_bad (by rw [HN.out]; exact hlt) (by rw [HB.out]; exact hst)))
      have DD0 := hid hR.out.drop
      clear hrun hheld
      cases s with
      | ahead =>
        obtain ⟨st, wv, dv, op, es, cd, wd, rfl, A⟩ := hR.out
        obtain ⟨⟨s0, s1, s2, s3, s4, s5⟩, hf⟩ := rd_cells A
        clear hf
        by_cases h32 : b.toNat = 32
        · have e1 : stepW .ahead ws k b = .go .ahead ws := by simp [stepW, h32]
          have hi : (b.toNat : Int) = 32 := by omega
          have nx := NX.out _ _ e1
          rw [hi] at ix
          clear e1 NX BD hi h32 A
          go_wp2
          go_roundw
          case rel => exact ⟨k + 1, .ahead, ws, by omega, by go_num, rfl, hR, nx.1, nx.2⟩
          case measure => simp [intOf]; omega
        · have n32 : ((b.toNat : Int) == 32) = false := by simp; omega
          by_cases h34 : b.toNat = 34
          · have e1 : stepW .ahead ws k b = .go (.quote k []) ws := by simp [stepW, h34]
            have hi : (b.toNat : Int) = 34 := by omega
            have nx := NX.out _ _ e1
            rw [hi] at ix
            have C := hid (begin_any (s := 3) A)
            clear e1 NX BD hi h34 h32 n32 A
            go_wp2_with (go_at_call 157; refine C.out.mono ?_; rintro e w1 ⟨rfl, A1⟩; clear s0 s1 s2 s3 s4 s5; have hc := rd_cells A1; obtain ⟨⟨s0, s1, s2, s3, s4, s5⟩, hf⟩ := hc; have f3 := hf 3; have A2 := hid (A1.setBlk 3 (.int .i64 (k : Int))); clear A1 hf)
            go_roundw
            case rel => exact ⟨k + 1, .quote k [], ws, by omega, by go_num, rfl, hid ⟨3, _, _, _, _, _, _, ⟨rfl, rfl, rfl⟩, A2.out⟩, nx.1, nx.2⟩
            case measure => simp [intOf]; omega
          · have n34 : ((b.toNat : Int) == 34) = false := by simp; omega
            have IB := hid (fun W => isBare_any b W)
            have C := hid (begin_any (s := 1) A)
            cases hx : bareN b.toNat with
            | true =>
              have e1 : stepW .ahead ws k b = .go (.bare [b]) ws := by simp [stepW, h34, h32, hx]
              have nx := NX.out _ _ e1
              have HBB : ∃ bb : UInt8, bb = b := ⟨b, rfl⟩
              clear e1 NX BD h34 h32 A
              go_wp2_with (first | (go_at_call 157; refine C.out.mono ?_; rintro e w1 ⟨rfl, A1⟩; clear s0 s1 s2 s3 s4 s5; have hq := word_app b A1 (by simp); obtain ⟨ao0, c0, ao, c, w2, hdv, hr, s2, t2, f2, A2⟩ := hq; rw [List.length_nil] at hr s2 t2 A2; have R := hid hr; have A3 := hid A2; clear hr A2 A1 hdv) | (go_at_call 158; refine (IB.out _).mono ?_; rintro e w3 ⟨rfl, rfl⟩; rw [hx]) | (at_builtin; refine wpList_append_run rfl _ _ 40 rfl _ _ _ _ rfl rfl R.out ?_))
              go_roundw
              case rel => exact ⟨k + 1, .bare [b], ws, by omega, by go_num, rfl, hid ⟨1, _, _, _, _, _, _, ⟨rfl, rfl⟩, A3.out⟩, nx.1, nx.2⟩
              case measure => simp [intOf]; omega
            | false =>
              have e1 : stepW .ahead ws k b = .bad k := by simp [stepW, h34, h32, hx]
              have fin := BD.out _ e1
              have m32 : ((b.toNat : Int) != 32) = true := by simp; omega
              clear e1 NX BD h34 h32 A
              go_wp2_with (first | (go_at_call 157; refine C.out.mono ?_; rintro e w1 ⟨rfl, A1⟩; clear s0 s1 s2 s3 s4 s5; have E := hid (end_any A1 hws); clear A1) | (go_at_call 158; refine (IB.out _).mono ?_; rintro e w3 ⟨rfl, rfl⟩; rw [hx]) | (go_at_call 159; refine E.out.mono ?_; rintro e w4 ⟨rfl, wv', A1⟩; have DD := hid A1.tail.tail.tail; clear A1) | (go_at_call 161; refine (answer_bad (k := k) (n := n) DD.out).mono ?_; rintro e w9 ⟨v, rfl, A9⟩; have A8 := hid A9; clear A9))
              simp only [Exit.noGoto]
              go_ret3
              exact ⟨v, by rw [fin.out]; rfl, by rw [fin.out]; exact A8.out⟩
      | bare x =>
        obtain ⟨st, wv, dv, op, es, cd, wd, ⟨rfl, rfl⟩, A⟩ := hR.out
        obtain ⟨⟨s0, s1, s2, s3, s4, s5⟩, hf⟩ := rd_cells A
        clear hf
        have IB := hid (fun W => isBare_any b W)
        cases hx : bareN b.toNat with
        | true =>
          have e1 : stepW (.bare wd) ws k b = .go (.bare (wd ++ [b])) ws := by simp [stepW, hx]
          have nx := NX.out _ _ e1
          have hq := word_app b A (by simp only [St.held] at hsh; omega)
          obtain ⟨ao0, c0, ao, c, w2, hdv, hr, s2', t2, f2, A2⟩ := hq
          rw [hdv] at s2
          have R := hid hr
          have A3 := hid A2
          clear e1 NX BD hr A2 A s2' hdv hsh
          generalize wd.length = nw at *
          go_wp2_with (first | (go_at_call 158; refine (IB.out _).mono ?_; rintro e w3 ⟨rfl, rfl⟩; rw [hx]) | (at_builtin; refine wpList_append_run rfl _ _ 40 rfl _ _ _ _ rfl rfl R.out ?_))
          go_roundw
          case rel => exact ⟨k + 1, .bare (wd ++ [b]), ws, by omega, by go_num, rfl, hid ⟨1, _, _, _, _, _, _, ⟨rfl, rfl⟩, A3.out⟩, nx.1, nx.2⟩
          case measure => simp [intOf]; omega
        | false =>
          have E := hid (end_any A hws)
          by_cases h32 : b.toNat = 32
          · have e1 : stepW (.bare wd) ws k b = .go .ahead (ws ++ [wd]) := by rw [stepW, hx]; simp [h32]
            have hi : (b.toNat : Int) = 32 := by omega
            have nx := NX.out _ _ e1
            clear e1 NX BD A hsh
            rw [hi] at ix IB
            clear hi h32
            go_wp2_with (first | (go_at_call 158; refine (IB.out _).mono ?_; rintro e w3 ⟨rfl, rfl⟩; rw [hx]) | (go_at_call 159; refine E.out.mono ?_; rintro e w4 ⟨rfl, wv', A1⟩; clear s0 s1 s2 s3 s4 s5; have hc := rd_cells A1; obtain ⟨⟨s0, s1, s2, s3, s4, s5⟩, hf⟩ := hc; have f0 := hf 0; have A2 := hid (A1.setBlk 0 (.int .i64 0)); clear A1 hf))
            go_roundw
            case rel => exact ⟨k + 1, .ahead, ws ++ [wd], by omega, by go_num, rfl, hid ⟨0, _, _, _, _, _, _, rfl, A2.out⟩, nx.1, nx.2⟩
            case measure => simp [intOf]; omega
          · have e1 : stepW (.bare wd) ws k b = .bad k := by rw [stepW, hx]; simp [h32]
            have fin := BD.out _ e1
            have m32 : ((b.toNat : Int) != 32) = true := by simp; omega
            clear e1 NX BD h32 A hsh
            go_wp2_with (first | (go_at_call 158; refine (IB.out _).mono ?_; rintro e w3 ⟨rfl, rfl⟩; rw [hx]) | (go_at_call 159; refine E.out.mono ?_; rintro e w4 ⟨rfl, wv', A1⟩; have DD := hid A1.tail.tail.tail; clear A1) | (go_at_call 161; refine (answer_bad (k := k) (n := n) DD.out).mono ?_; rintro e w9 ⟨v, rfl, A9⟩; have A8 := hid A9; clear A9))
            simp only [Exit.noGoto]
            go_ret3
            exact ⟨v, by rw [fin.out]; rfl, by rw [fin.out]; exact A8.out⟩
      | closed =>
        obtain ⟨st, wv, dv, op, es, cd, wd, rfl, A⟩ := hR.out
        obtain ⟨⟨s0, s1, s2, s3, s4, s5⟩, hf⟩ := rd_cells A
        by_cases h32 : b.toNat = 32
        · have e1 : stepW .closed ws k b = .go .ahead ws := by simp [stepW, h32]
          have hi : (b.toNat : Int) = 32 := by omega
          have nx := NX.out _ _ e1
          have f0 := hf 0
          have A2 := hid (A.setBlk 0 (.int .i64 0))
          rw [hi] at ix
          clear e1 NX BD A hsh hi h32 hf
          go_wp2
          go_roundw
          case rel => exact ⟨k + 1, .ahead, ws, by omega, by go_num, rfl, hid ⟨0, _, _, _, _, _, _, rfl, A2.out⟩, nx.1, nx.2⟩
          case measure => simp [intOf]; omega
        · have e1 : stepW .closed ws k b = .bad k := by simp [stepW, h32]
          have fin := BD.out _ e1
          have m32 : ((b.toNat : Int) != 32) = true := by simp; omega
          have DD := DD0
          clear e1 NX BD h32 A hsh hf
          go_wp2_with (go_at_call 161; refine (answer_bad (k := k) (n := n) DD.out).mono ?_; rintro e w9 ⟨v, rfl, A9⟩; have A8 := hid A9; clear A9)
          simp only [Exit.noGoto]
          go_ret3
          exact ⟨v, by rw [fin.out]; rfl, by rw [fin.out]; exact A8.out⟩
      | quote o x =>
        have hne : (.quote o x : St) ≠ .ahead ∧ (∀ y, (.quote o x : St) ≠ .bare y) ∧ (.quote o x : St) ≠ .closed := ⟨by simp, by simp, by simp⟩
        have C := hid (quoted_any (k := k) (b := b) hR.out hne hsh hws)
        obtain ⟨st, wv, dv, op, es, cd, wd, ⟨rfl, rfl, rfl⟩, A⟩ := hR.out
        obtain ⟨⟨s0, s1, s2, s3, s4, s5⟩, hf⟩ := rd_cells A
        clear hf A hne hsh
        cases hO : stepW (.quote o wd) ws k b with
        | go s' ws' =>
          have nx := NX.out _ _ hO
          rw [hO] at C
          clear NX BD hO
          go_wp2_with (go_at_call 160; refine C.out.mono ?_; rintro e w1 ⟨rfl, A1⟩; have A2 := hid A1; clear A1)
          go_roundw
          case rel => exact ⟨k + 1, s', ws', by omega, by go_num, rfl, A2, nx.1, nx.2⟩
          case measure => simp [intOf]; omega
        | bad j =>
          have fin := BD.out _ hO
          rw [hO] at C
          have mj : ((j : Int) != -1) = true := by simp
          clear NX BD hO
          go_wp2_with (first | (go_at_call 160; refine C.out.mono ?_; rintro e w1 ⟨rfl, A1⟩; have DD := hid A1; clear A1) | (go_at_call 161; refine (answer_bad (k := j) (n := n) DD.out).mono ?_; rintro e w9 ⟨v, rfl, A9⟩; have A8 := hid A9; clear A9))
          simp only [Exit.noGoto]
          go_ret3
          exact ⟨v, by rw [fin.out]; rfl, by rw [fin.out]; exact A8.out⟩
      | esc o x f =>
        have hne : (.esc o x f : St) ≠ .ahead ∧ (∀ y, (.esc o x f : St) ≠ .bare y) ∧ (.esc o x f : St) ≠ .closed := ⟨by simp, by simp, by simp⟩
        have C := hid (quoted_any (k := k) (b := b) hR.out hne hsh hws)
        obtain ⟨st, wv, dv, op, es, cd, wd, ⟨rfl, rfl, rfl, rfl⟩, A⟩ := hR.out
        obtain ⟨⟨s0, s1, s2, s3, s4, s5⟩, hf⟩ := rd_cells A
        clear hf A hne hsh
        cases hO : stepW (.esc o wd f) ws k b with
        | go s' ws' =>
          have nx := NX.out _ _ hO
          rw [hO] at C
          clear NX BD hO
          go_wp2_with (go_at_call 160; refine C.out.mono ?_; rintro e w1 ⟨rfl, A1⟩; have A2 := hid A1; clear A1)
          go_roundw
          case rel => exact ⟨k + 1, s', ws', by omega, by go_num, rfl, A2, nx.1, nx.2⟩
          case measure => simp [intOf]; omega
        | bad j =>
          have fin := BD.out _ hO
          rw [hO] at C
          have mj : ((j : Int) != -1) = true := by simp
          clear NX BD hO
          go_wp2_with (first | (go_at_call 160; refine C.out.mono ?_; rintro e w1 ⟨rfl, A1⟩; have DD := hid A1; clear A1) | (go_at_call 161; refine (answer_bad (k := j) (n := n) DD.out).mono ?_; rintro e w9 ⟨v, rfl, A9⟩; have A8 := hid A9; clear A9))
          simp only [Exit.noGoto]
          go_ret3
          exact ⟨v, by rw [fin.out]; rfl, by rw [fin.out]; exact A8.out⟩
      | high o x f =>
        have hne : (.high o x f : St) ≠ .ahead ∧ (∀ y, (.high o x f : St) ≠ .bare y) ∧ (.high o x f : St) ≠ .closed := ⟨by simp, by simp, by simp⟩
        have C := hid (quoted_any (k := k) (b := b) hR.out hne hsh hws)
        obtain ⟨st, wv, dv, op, es, cd, wd, ⟨rfl, rfl, rfl, rfl⟩, A⟩ := hR.out
        obtain ⟨⟨s0, s1, s2, s3, s4, s5⟩, hf⟩ := rd_cells A
        clear hf A hne hsh
        cases hO : stepW (.high o wd f) ws k b with
        | go s' ws' =>
          have nx := NX.out _ _ hO
          rw [hO] at C
          clear NX BD hO
          go_wp2_with (go_at_call 160; refine C.out.mono ?_; rintro e w1 ⟨rfl, A1⟩; have A2 := hid A1; clear A1)
          go_roundw
          case rel => exact ⟨k + 1, s', ws', by omega, by go_num, rfl, A2, nx.1, nx.2⟩
          case measure => simp [intOf]; omega
        | bad j =>
          have fin := BD.out _ hO
          rw [hO] at C
          have mj : ((j : Int) != -1) = true := by simp
          clear NX BD hO
          go_wp2_with (first | (go_at_call 160; refine C.out.mono ?_; rintro e w1 ⟨rfl, A1⟩; have DD := hid A1; clear A1) | (go_at_call 161; refine (answer_bad (k := j) (n := n) DD.out).mono ?_; rintro e w9 ⟨v, rfl, A9⟩; have A8 := hid A9; clear A9))
          simp only [Exit.noGoto]
          go_ret3
          exact ⟨v, by rw [fin.out]; rfl, by rw [fin.out]; exact A8.out⟩
      | low o x f g =>
        have hne : (.low o x f g : St) ≠ .ahead ∧ (∀ y, (.low o x f g : St) ≠ .bare y) ∧ (.low o x f g : St) ≠ .closed := ⟨by simp, by simp, by simp⟩
        have C := hid (quoted_any (k := k) (b := b) hR.out hne hsh hws)
        obtain ⟨st, wv, dv, op, es, cd, wd, ⟨rfl, rfl, rfl, rfl, rfl, hg⟩, A⟩ := hR.out
        obtain ⟨⟨s0, s1, s2, s3, s4, s5⟩, hf⟩ := rd_cells A
        clear hf A hne hsh
        cases hO : stepW (.low o wd f g) ws k b with
        | go s' ws' =>
          have nx := NX.out _ _ hO
          rw [hO] at C
          clear NX BD hO
          go_wp2_with (go_at_call 160; refine C.out.mono ?_; rintro e w1 ⟨rfl, A1⟩; have A2 := hid A1; clear A1)
          go_roundw
          case rel => exact ⟨k + 1, s', ws', by omega, by go_num, rfl, A2, nx.1, nx.2⟩
          case measure => simp [intOf]; omega
        | bad j =>
          have fin := BD.out _ hO
          rw [hO] at C
          have mj : ((j : Int) != -1) = true := by simp
          clear NX BD hO
          go_wp2_with (first | (go_at_call 160; refine C.out.mono ?_; rintro e w1 ⟨rfl, A1⟩; have DD := hid A1; clear A1) | (go_at_call 161; refine (answer_bad (k := j) (n := n) DD.out).mono ?_; rintro e w9 ⟨v, rfl, A9⟩; have A8 := hid A9; clear A9))
          simp only [Exit.noGoto]
          go_ret3
          exact ⟨v, by rw [fin.out]; rfl, by rw [fin.out]; exact A8.out⟩
    · have hlt' : ¬ (k : Int) < (n : Int) := by omega
      have fin : Hid (AN = finW s ws k) := hid (by rw [hrun.out]; exact runW_end (by rw [HN.out]; omega))
      have C := hid (answer_fin (n := n) hR.out hws)
      have hkn := hid (show k = n by omega)
      go_wp2_with (go_at_call 161; refine C.out.mono ?_; rintro e w1 ⟨v, rfl, A1⟩; have A2 := hid A1; clear A1)
      simp only [Exit.noGoto]
      go_ret3
      refine ⟨v, ?_, ?_⟩
      · rw [fin.out, hkn.out]; rfl
      · rw [fin.out, hkn.out]; exact A2.out
end Go.Proofs.YtdhkdniddjnigaaGreatDoor

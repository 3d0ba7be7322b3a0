import Derived.Test.YtblojlaifnmimaaGreatDoorWk
namespace Go.Proofs.YtblojlaifnmimaaGreatDoor
open Go.RowKit
set_option linter.unusedVariables false

set_option maxHeartbeats 3200000 in
set_option maxRecDepth 1000000 in
theorem remarks_law {l m : List UInt8} {n : Int} {w : World} (E : En w) (hl : l.length ≤ 140737488355328) (hm : m.length ≤ 140737488355328) (hn1 : -9223372036854775808 ≤ n) (hn2 : n ≤ 9223372036854775807) :
    Calls Tryz.prog 6 #[.string ⟨l.toArray⟩, .string ⟨m.toArray⟩, .int .i64 n] w fun e w' => e = .returned (.bool true) ∧ Below w.heap.size w w' := by
  have J0 : Hid (Imp w [inC w]) := hid (fun W h => h)
  have A0 := hid (All.came w)
  have SH : Hid (∀ D W, Imp w D → All D W → Calls Tryz.prog 8 #[] W fun e w' => e = .returned (.bool true) ∧ All D w') := hid (fun D W hD A => shown_any A (hD.en E))
  cases hp : parseW l with
  | bad nn k =>
    have hk' : (k != 0) = true := by simpa using parse_bad hp
    have C2 : Hid (∀ W, All [inC w] W → Calls Tryz.prog 9 #[.string ⟨l.toArray⟩] W fun e w' => ∃ V sv, e = .returned (.tuple #[.agg V.toArray, .int .i64 (nn : Int), .int .i64 k]) ∧ PV V zC [] (sv :: [inC w]) ∧ All (sv :: [inC w]) w') := hid (fun W hW => by
      have C := Parse_any hW (J0.out.en E) hl
      rw [hp] at C
      refine C.mono ?_
      rintro e w' ⟨v, he, h⟩
      obtain ⟨a1, c1, hv⟩ := owns_form (h.1.2.1 : w'.ownsRow 0 43 10 v 0 _)
      exact ⟨_, _, he, PV.mk' ⟨_, _, _, hv⟩ zC_len (by simp) (fun s hs => by cases hs) (fun W h => sps_mem h (.head _)), h⟩)
    clear hp E hl hm
    generalize ByteArray.mk l.toArray = XL at *
    generalize ByteArray.mk m.toArray = XM at *
    go_enter Tryz.func6, Tryz.ntmps6
    go_wp2_with (first | (go_at_call 8; refine (SH.out _ _ J0.out A0.out).mono ?_; rintro e w1 ⟨rfl, A1⟩; have K1 := hid A1; clear A1) | (go_at_call 9; refine (C2.out _ K1.out).mono ?_; rintro e w3 ⟨V1, s1, rfl, p1, A3⟩; have P1 := hid p1; have K3 := hid A3; clear p1 A3) | (refine wpList_store_row rfl 27 _ _ rfl w3.heap.size V1.toArray rfl rfl 27 _ (play_new w3) P1.out.i P1.out.z P1.out.o ?_; rw [World.setRow_alloc_new]))
    have K4 := hid (K3.out.addBlk V1 27)
    go_ret
    exact ⟨rfl, K4.out.tail.tail.into (by simp)⟩
  | ok c ss =>
    have hl6 := parse_short hp
    have SM := hid (same_pack (c := c) (ss := ss))
    have PS : Hid (∀ D W, Imp w D → All D W → Calls Tryz.prog 9 #[.string ⟨l.toArray⟩] W fun e w' => ∃ V sv, e = .returned (.tuple #[.agg V.toArray, .int .i64 0, .int .i64 0]) ∧ PV V c ss (sv :: D) ∧ All (sv :: D) w') := hid (fun D W hD A => PV.parse hp hl (hD.en E) A)
    have PU : Hid (∀ u : List UInt8, fln u = fln l → u.length ≤ 65536 → ∀ D W, Imp w D → All D W → Calls Tryz.prog 9 #[.string ⟨u.toArray⟩] W fun e w' => ∃ V sv, e = .returned (.tuple #[.agg V.toArray, .int .i64 0, .int .i64 0]) ∧ PV V c ss (sv :: D) ∧ All (sv :: D) w') := hid (fun u hu h6 D W hD A => PV.parse (parse_fl hp hu h6) (by omega) (hD.en E) A)
    have IXm : Hid (∀ k, k < m.length → ∀ W, (Instr.index 9 (.string ⟨m.toArray⟩) (.int .i64 (k : Int))).run Tryz.prog W = .ok (.int .u8 ((m.getD k 0).toNat : Int)) W) := hid (fun k hk W => idx_at hk W)
    have IXl : Hid (∀ k, k < l.length → ∀ W, (Instr.index 9 (.string ⟨l.toArray⟩) (.int .i64 (k : Int))).run Tryz.prog W = .ok (.int .u8 ((l.getD k 0).toNat : Int)) W) := hid (fun k hk W => idx_at hk W)
    have CRm : Hid (∀ k, k < m.length → ∃ Y : ByteArray, Y = ⟨[m.getD k 0].toArray⟩ ∧ ∀ W, (Instr.slice 9 (.string ⟨m.toArray⟩) (some (.int .i64 (k : Int))) (some (.int .i64 ((k : Int) + 1))) none).run Tryz.prog W = .ok (.string Y) W) := hid (fun k hk => ⟨_, rfl, fun W => by
      have := cut_run (l := m) (i := k) (j := k + 1) (by omega) (by omega) W
      rw [cutW_one hk] at this
      exact this⟩)
    have CRl : Hid (∀ f k, f ≤ k → k < l.length → ∃ Y : ByteArray, Y = ⟨(cutW l f (k + 1)).toArray⟩ ∧ ∀ W, (Instr.slice 9 (.string ⟨l.toArray⟩) (some (.int .i64 (f : Int))) (some (.int .i64 ((k : Int) + 1))) none).run Tryz.prog W = .ok (.string Y) W) := hid (fun f k hf hk => ⟨_, rfl, fun W => cut_run (l := l) (i := f) (j := k + 1) (by omega) (by omega) W⟩)
    have CEl : Hid (∀ f, f ≤ l.length → ∃ Y : ByteArray, Y = ⟨(l.drop f).toArray⟩ ∧ ∀ W, (Instr.slice 9 (.string ⟨l.toArray⟩) (some (.int .i64 (f : Int))) none none).run Tryz.prog W = .ok (.string Y) W) := hid (fun f hf => ⟨_, rfl, fun W => cut_end hf W⟩)
    have EX1 : Hid (∀ o f i, Ex o (l.take f) → f ≤ i + 1 → Ex (o ++ cutW l f (i + 1)) (l.take (i + 1))) := hid (fun o f i h hf => h.line hf)
    have EX2 : Hid (∀ o i R, Ex o (l.take (i + 1)) → i < l.length → l.getD i 0 = 10 → RemOk R → Ex (o ++ [32, 9] ++ R ++ [10, 32, 10]) (l.take (i + 1))) := hid (fun o i R h hi h10 hR => h.rem hi h10 hR)
    have EX3 : Hid (∀ o f R, Ex o (l.take f) → RemOk R → fln (R ++ [10] ++ o ++ l.drop f ++ [10] ++ R) = fln l) := hid (fun o f R h hR => h.done hR)
    have EX0 : Hid (Ex [] (l.take 0)) := hid (fun r => by simp)
    have CL : Hid (∀ f k, f ≤ k → k < l.length → (cutW l f (k + 1)).length = k + 1 - f) := hid (fun f k hf hk => by unfold cutW; rw [List.length_take, List.length_drop]; omega)
    have DL : Hid (∀ f, (l.drop f).length ≤ l.length) := hid (fun f => by rw [List.length_drop]; omega)
    have zl : (⟨l.toArray⟩ : ByteArray).size = l.length := ba_size l
    have zm : (⟨m.toArray⟩ : ByteArray).size = m.length := ba_size m
    clear hp E hl
    generalize ByteArray.mk l.toArray = XL at *
    generalize ByteArray.mk m.toArray = XM at *
    generalize hnl : l.length = nl at *
    generalize hnm : m.length = nm at *
    have HNL := hid hnl
    have HNM := hid hnm
    clear hnl hnm
    go_enter Tryz.func6, Tryz.ntmps6
    go_upto_region 3 with (first | (go_at_call 8; refine (SH.out _ _ J0.out A0.out).mono ?_; rintro e w1 ⟨rfl, A1⟩; have K1 := hid A1; clear A1) | (go_at_call 9; refine (PS.out _ _ J0.out K1.out).mono ?_; rintro e w3 ⟨V1, s1, rfl, p1, A3⟩; have P1 := hid p1; have K3 := hid A3; clear p1 A3) | (refine wpList_store_row rfl 27 _ _ rfl w3.heap.size V1.toArray rfl rfl 27 _ (play_new w3) P1.out.i P1.out.z P1.out.o ?_; rw [World.setRow_alloc_new]))
    clear PS SH A0 K1
    have K4 := hid (K3.out.addBlk V1 27)
    have P1' := hid (P1.out.mono (fun W (h : All (blkC w3.heap.size V1 27 :: s1 :: [inC w]) W) => h.tail))
    have I1 : Hid (Imp w (blkC w3.heap.size V1 27 :: s1 :: [inC w])) := hid J0.out.tail.tail
    clear K3 P1 J0
    generalize w3.heap.size = G1 at *
    generalize w3.alloc (.cells V1.toArray 27) = w4 at *
    go_upto_block 0 with fail
    go_cut [11] (fun s wx => ∃ (S : ByteArray) (R : List UInt8), s = .string S ∧ Hid (S = ⟨R.toArray⟩) ∧ Hid (RemOk R) ∧ Hid (R.length ≤ 65) ∧ wx = w4)
    case first =>
      clear PU IXl CRl CEl EX1 EX2 EX3 EX0 CL DL K4 SM P1' I1
      go_wp2_with fail
      go_loopw [11, 12] (fun sv iv wr => ∃ (k : Nat) (S : ByteArray) (R : List UInt8), k ≤ 64 ∧ k ≤ nm ∧ iv = .int .i64 (k : Int) ∧ sv = .string S ∧ Hid (S = ⟨R.toArray⟩) ∧ Hid (RemOk R) ∧ Hid (R.length ≤ k + 1) ∧ wr = w4) (fun _ iv _ => 64 - (intOf iv).toNat)
      case atStart => exact ⟨0, ⟨#[35]⟩, [35], by omega, by omega, rfl, rfl, hid rfl, hid ⟨[], rfl, fun b hb => by cases hb⟩, hid (by simp), rfl⟩
      case round =>
        obtain ⟨k, S, R, hk, hkm, rfl, rfl, hS, hR, hRl, rfl⟩ := hrel
        by_cases hlt : k < nm
        · have hlt' : (k : Int) < (nm : Int) := by omega
          by_cases h64 : k < 64
          · have h64' : (k : Int) < 64 := by omega
            have ix := IXm.out k hlt
            obtain ⟨Y, hY, cr⟩ := CRm.out k hlt
            generalize hb : m.getD k 0 = b at ix hY
            clear hb
            by_cases h10 : b.toNat = 10
            · have bi : (b.toNat : Int) = 10 := by omega
              rw [bi] at ix
              clear bi h10 hY cr
              go_wp2
              go_roundw
              case rel => exact ⟨k + 1, S, R, by omega, by omega, by go_num, rfl, hS, hR, hid (by have := hRl.out; omega), trivial⟩
              case measure => simp [intOf]; omega
            · have bn : ((b.toNat : Int) != 10) = true := by simp; omega
              have hb10 : b ≠ 10 := fun e => h10 (by rw [e]; rfl)
              obtain ⟨N1, f1, g1, e1⟩ := cat_ex hS.out hY (by have := hRl.out; simp only [List.length_cons, List.length_nil]; omega)
              have E1 := hid e1
              have R1 : Hid (RemOk (R ++ [b])) := hid (hR.out.snoc hb10)
              have L1 : Hid ((R ++ [b]).length ≤ k + 1 + 1) := hid (by have := hRl.out; simp only [List.length_append, List.length_cons, List.length_nil]; omega)
              clear e1 h10 hb10 hY
              go_wp2
              go_roundw
              case rel => exact ⟨k + 1, N1, R ++ [b], by omega, by omega, by go_num, rfl, E1, R1, L1, trivial⟩
              case measure => simp [intOf]; omega
          · have h64' : ¬ (k : Int) < 64 := by omega
            go_wp2
            go_meet
            exact ⟨S, R, rfl, hS, hR, hid (by have := hRl.out; omega), rfl⟩
        · have hlt' : ¬ (k : Int) < (nm : Int) := by omega
          go_wp2
          go_meet
          exact ⟨S, R, rfl, hS, hR, hid (by have := hRl.out; omega), rfl⟩
    case rest =>
      obtain ⟨S, R, rfl, hS, hR, hRl, rfl⟩ := hcut
      clear IXm CRm zm HNM hm
      go_upto_if 53 with fail
      go_cut [2] (fun s wx => ∃ q : Int, s = .int .i64 q ∧ wx = wc)
      case first =>
        clear PU IXl CRl CEl EX1 EX2 EX3 EX0 CL DL K4 SM P1' I1
        by_cases hn : n < 0
        · go_wp2
          go_meet
          exact ⟨_, rfl, rfl⟩
        · go_wp2
          go_meet
          exact ⟨_, rfl, rfl⟩
      case rest =>
        obtain ⟨q, rfl, rfl⟩ := hcut
        clear hn1 hn2
        go_upto_block 2 with fail
        go_cut [13, 14] (fun s f wx => ∃ (T : ByteArray) (O : List UInt8) (fr : Nat), s = .string T ∧ f = .int .i64 (fr : Int) ∧ fr ≤ nl ∧ Hid (T = ⟨O.toArray⟩) ∧ Hid (Ex O (l.take fr)) ∧ Hid (O.length ≤ 71 * fr) ∧ wx = wc)
        case first =>
          clear PU CEl EX3 DL K4 SM P1' I1
          go_wp2_with fail
          go_loopw [13, 14, 15, 16] (fun tv fv mv iv wr => ∃ (k fr q' : Nat) (T : ByteArray) (O : List UInt8), k ≤ nl ∧ fr ≤ k ∧ q' ≤ k ∧ iv = .int .i64 (k : Int) ∧ mv = .int .i64 (q' : Int) ∧ fv = .int .i64 (fr : Int) ∧ tv = .string T ∧ Hid (T = ⟨O.toArray⟩) ∧ Hid (Ex O (l.take fr)) ∧ Hid (O.length ≤ 71 * fr) ∧ wr = wc) (fun _ _ _ iv _ => nl - (intOf iv).toNat)
          case atStart => exact ⟨0, 0, 0, ⟨#[]⟩, [], by omega, by omega, by omega, rfl, rfl, rfl, rfl, hid rfl, EX0, hid (by simp), rfl⟩
          case round =>
            obtain ⟨k, fr, q', T, O, hk, hfr, hq, rfl, rfl, rfl, rfl, hT, hO, hOl, rfl⟩ := hrel
            by_cases hlt : k < nl
            · have hlt' : (k : Int) < (nl : Int) := by omega
              have ix := IXl.out k hlt
              generalize hb : l.getD k 0 = b at ix
              have HB := hid hb
              clear hb
              by_cases h10 : b.toNat = 10
              · have bi : (b.toNat : Int) = 10 := by omega
                rw [bi] at ix
                have hb10 : Hid (l.getD k 0 = 10) := hid (by rw [HB.out]; exact UInt8.toNat_inj.1 h10)
                obtain ⟨Y, hY, cr⟩ := CRl.out fr k hfr hlt
                have cl := CL.out fr k hfr hlt
                have ol := hOl.out
                have rl := hRl.out
                obtain ⟨N1, f1, g1, e1⟩ := cat_ex hT.out hY (by rw [cl]; omega)
                obtain ⟨N2, f2, g2, e2⟩ := cat_ex e1 (show (⟨#[32, 9]⟩ : ByteArray) = ⟨[32, 9].toArray⟩ from rfl) (by simp only [List.length_append, cl, List.length_cons, List.length_nil]; omega)
                obtain ⟨N3, f3, g3, e3⟩ := cat_ex e2 hS.out (by simp only [List.length_append, cl, List.length_cons, List.length_nil]; omega)
                obtain ⟨N4, f4, g4, e4⟩ := cat_ex e3 (show (⟨#[10, 32, 10]⟩ : ByteArray) = ⟨[10, 32, 10].toArray⟩ from rfl) (by simp only [List.length_append, cl, List.length_cons, List.length_nil]; omega)
                have X1 := hid (EX1.out O fr k hO.out (by omega))
                have X4 := hid (EX2.out _ k R X1.out hlt hb10.out hR.out)
                have L1 : Hid ((O ++ cutW l fr (k + 1)).length ≤ 71 * (k + 1)) := hid (by simp only [List.length_append, cl]; omega)
                have L4 : Hid ((O ++ cutW l fr (k + 1) ++ [32, 9] ++ R ++ [10, 32, 10]).length ≤ 71 * (k + 1)) := hid (by simp only [List.length_append, cl, List.length_cons, List.length_nil]; omega)
                have H1 := hid e1
                have H4 := hid e4
                clear e1 e2 e3 e4 hY cl ol rl h10 bi hb10
                go_wp2
                · go_roundw
                  case rel => exact ⟨k + 1, k + 1, q' + 1, N4, _, by omega, by omega, by omega, by go_num, by go_num, by go_num, rfl, H4, X4, L4, trivial⟩
                  case measure => simp [intOf]; omega
                · go_roundw
                  case rel => exact ⟨k + 1, k + 1, q' + 1, N1, _, by omega, by omega, by omega, by go_num, by go_num, by go_num, rfl, H1, X1, L1, trivial⟩
                  case measure => simp [intOf]; omega
              · have bn : ((b.toNat : Int) != 10) = true := by simp; omega
                clear h10
                go_wp2
                go_roundw
                case rel => exact ⟨k + 1, fr, q', T, O, by omega, by omega, by omega, by go_num, rfl, rfl, rfl, hT, hO, hOl, trivial⟩
                case measure => simp [intOf]; omega
            · have hlt' : ¬ (k : Int) < (nl : Int) := by omega
              go_wp2
              go_meet
              exact ⟨T, O, fr, rfl, rfl, by omega, hT, hO, hOl, rfl⟩
        case rest =>
          obtain ⟨T, O, fr, rfl, rfl, hfr, hT, hO, hOl, rfl⟩ := hcut
          clear IXl CRl EX1 EX2 EX0 CL
          obtain ⟨Y, hY, cr⟩ := CEl.out fr hfr
          have dl := DL.out fr
          have ol := hOl.out
          have rl := hRl.out
          obtain ⟨N1, f1, g1, e1⟩ := cat_ex hS.out (show (⟨#[10]⟩ : ByteArray) = ⟨[10].toArray⟩ from rfl) (by simp only [List.length_cons, List.length_nil]; omega)
          obtain ⟨N2, f2, g2, e2⟩ := cat_ex e1 hT.out (by simp only [List.length_append, List.length_cons, List.length_nil]; omega)
          obtain ⟨N3, f3, g3, e3⟩ := cat_ex e2 hY (by simp only [List.length_append, List.length_cons, List.length_nil]; omega)
          obtain ⟨N4, f4, g4, e4⟩ := cat_ex e3 (show (⟨#[10]⟩ : ByteArray) = ⟨[10].toArray⟩ from rfl) (by simp only [List.length_append, List.length_cons, List.length_nil]; omega)
          obtain ⟨N5, f5, g5, e5⟩ := cat_ex e4 hS.out (by simp only [List.length_append, List.length_cons, List.length_nil]; omega)
          have FE := hid (EX3.out O fr R hO.out hR.out)
          generalize hU : R ++ [10] ++ O ++ l.drop fr ++ [10] ++ R = U at *
          clear hU
          have z5 : N5.size = U.length := by rw [e5]; exact ba_size U
          have H5 := hid e5
          clear e1 e2 e3 e4 e5 hY dl ol rl CEl EX3 DL
          by_cases h6 : 65536 < U.length
          · have h6' : (65536 : Int) < (U.length : Int) := by omega
            generalize U.length = nu at *
            go_wp2
            go_ret
            exact ⟨rfl, (I1.out _ K4.out).into (by simp)⟩
          · have h6' : ¬ (65536 : Int) < (U.length : Int) := by omega
            have PQ := hid (PU.out U FE.out (by omega))
            rw [← H5.out] at PQ
            clear PU FE H5 h6
            generalize U.length = nu at *
            go_upto_region 29 with (first | (go_at_call 9; refine (PQ.out _ _ I1.out K4.out).mono ?_; rintro e w6 ⟨V2, s3, rfl, p2, A6⟩; have P2 := hid p2; have K6 := hid A6; clear p2 A6) | (refine wpList_store_row rfl 27 _ _ rfl w6.heap.size V2.toArray rfl rfl 27 _ (play_new w6) P2.out.i P2.out.z P2.out.o ?_; rw [World.setRow_alloc_new]))
            clear K4 PQ
            have K7 := hid (K6.out.addBlk V2 27)
            have P1n := hid (P1'.out.mono (fun W (h : All (blkC w6.heap.size V2 27 :: s3 :: (blkC G1 V1 27 :: s1 :: [inC w])) W) => h.tail.tail))
            have P2n := hid (P2.out.mono (fun W (h : All (blkC w6.heap.size V2 27 :: s3 :: (blkC G1 V1 27 :: s1 :: [inC w])) W) => h.tail))
            clear K6 P1' P2
            generalize w6.heap.size = G2 at *
            generalize w6.alloc (.cells V2.toArray 27) = w7 at *
            have H7 := hid K7.out.1.2.1
            have H8 := hid K7.out.tail.tail.1.2.1
            go_wp2_with (first | (refine wpList_load_row rfl 27 _ rfl G2 rfl 27 V2.toArray (0, 0) _ H7.out Tryz.underlying27 rfl P2n.out.i ?_) | (refine wpList_load_row rfl 27 _ rfl G1 rfl 27 V1.toArray (0, 0) _ H8.out Tryz.underlying27 rfl P1n.out.i ?_) | (go_at_call 11; refine (SM.out _ _ _ _ P2n.out P1n.out K7.out).mono ?_; rintro e w8 ⟨rfl, A8⟩; have K8 := hid A8; clear A8))
            go_ret
            exact ⟨rfl, (I1.out _ K8.out.tail.tail).into (by simp)⟩
end Go.Proofs.YtblojlaifnmimaaGreatDoor

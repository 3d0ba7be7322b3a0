import Derived.Test.YtafickhhdemjnaaGreatDoorEg7
import Derived.Test.YtafickhhdemjnaaGreatDoorSn
namespace Go.Proofs.YtafickhhdemjnaaGreatDoor
open Go.RowKit
set_option linter.unusedVariables false
set_option maxRecDepth 100000

abbrev S0 : St := [none, none, none, none, none, none, none, none]
theorem S0_ok : OkS 0 S0 := by
  have no : ∀ (i : Nat) (q : Qs), S0[i]? ≠ some (some q) := by
    intro i q h
    have := List.mem_of_getElem? h
    simp at this
  exact ⟨rfl, fun i q h => absurd h (no i q), fun i j q q' h => absurd h (no i q)⟩
/-- An engine ahead of the first op. -/
def EM.zero (ev : Nat) : EM := ⟨0, 0, ev, noS, noS, S0, List.replicate 8 .zero⟩
theorem All.addPool {cs : List Comp} {w : World} (h : All cs w) : All (poolC [] :: cs) w :=
  ⟨⟨poolC_good _, fun x hx => absurd hx (by simp), fun k hk => by simp [poolC] at hk⟩, fun d hd k hk => by simp [poolC] at hk, h⟩
set_option maxRecDepth 1000000 in
set_option maxHeartbeats 1600000 in
theorem newState_any {cs : List Comp} {w : World} (A : All cs w) : Calls Tryz.prog 47 #[] w fun e w' => ∃ g Sh Rl P tp tN, e = .returned (.agg #[.int .i64 0, .pointer (some ⟨g, 0, none⟩), .pointer (some ⟨Sh, 0, none⟩), .pointer (some ⟨Rl, 0, none⟩)]) ∧ Bk P 16 16 tp tN noS ∧ All (poolC P :: blkC g (bookL 16 16 tp) 180 :: (shL Sh S0 ++ (rollL Rl (List.replicate 8 .zero) ++ cs))) w' := by
  have A1 := hid (A.addBlk [.int .i64 0, .pointer none, .pointer none, .pointer none] 88)
  obtain ⟨R, hR⟩ : ∃ R, Hid (R = w.heap.size) := ⟨_, hid rfl⟩
  rw [← hR.out] at A1
  clear A
  go_enter Tryz.func47, Tryz.ntmps47
  go_upto_region 1 with fail
  simp only [← hR.out]
  generalize w.alloc (.cells #[.int .i64 0, .pointer none, .pointer none, .pointer none] 88) = w1 at *
  clear hR
  have C76 := hid (New_all (n := 16) A1.out.addPool (by omega) (by omega))
  go_upto_region 2 with (go_at_call 76; refine C76.out.mono ?_; rintro e w2 ⟨g, rfl, P, lv, tp, tN, A2, B2, _⟩; obtain rfl := B2.lv16; have K2 := hid A2; have BK := hid B2; clear A2 B2)
  have C77 := hid (New_any K2.out)
  have PM : Hid (∀ (W : World) (Sh Rl : Nat), All (rollL Rl (List.replicate 8 .zero) ++ (blkC Sh zero32 159 :: poolC P :: blkC g (bookL 16 16 tp) 180 :: blkC R [.int .i64 0, .pointer none, .pointer none, .pointer none] 88 :: cs)) W → All (blkC R [.int .i64 0, .pointer none, .pointer none, .pointer none] 88 :: (poolC P :: blkC g (bookL 16 16 tp) 180 :: (shL Sh S0 ++ (rollL Rl (List.replicate 8 .zero) ++ cs)))) W) := hid (fun W Sh Rl h => by
    refine h.perm ?_
    have := perm_by 5 [rollL Rl (List.replicate 8 .zero), shL Sh S0, [poolC P, blkC g (bookL 16 16 tp) 180], [blkC R [.int .i64 0, .pointer none, .pointer none, .pointer none] 88], cs] [3, 2, 1, 0, 4] rfl (by decide)
    simp only [List.flatten_cons, List.flatten_nil, List.map_cons, List.map_nil, List.getD_eq_getElem?_getD, List.getElem?_cons_zero, List.getElem?_cons_succ, Option.getD_some, List.append_nil, List.cons_append, List.nil_append] at this
    exact this)
  go_wp2_with (first | (go_at_call 77; refine C77.out.mono ?_; rintro e w3 ⟨Sh, rfl, A3, _, _⟩; have K3 := hid A3; clear A3; have C78 := hid (new_any K3.out)) | (go_at_call 78; refine C78.out.mono ?_; rintro e w4 ⟨Rl, rfl, A4⟩; have K4 := hid (PM.out _ _ _ A4); have r0 := cell_in (o := 0) K4.out List.mem_cons_self rfl; have r1 := cell_in (o := 1) K4.out List.mem_cons_self rfl; have r2 := cell_in (o := 2) K4.out List.mem_cons_self rfl; have r3 := cell_in (o := 3) K4.out List.mem_cons_self rfl; have f0 := free_in K4.out List.mem_cons_self 0; have f1 := free_in K4.out List.mem_cons_self 1; have f2 := free_in K4.out List.mem_cons_self 2; have f3 := free_in K4.out List.mem_cons_self 3; have lR : R < w4.heap.size := lt_in K4.out List.mem_cons_self))
  have FIN := hid ((((K4.out.setBlk 0 (.int .i64 0)).setBlk 1 (.pointer (some ⟨g, 0, none⟩))).setBlk 2 (.pointer (some ⟨Sh, 0, none⟩))).setBlk 3 (.pointer (some ⟨Rl, 0, none⟩)))
  simp only [List.set_cons_zero, List.set_cons_succ] at FIN
  generalize (((w4.setCell ⟨R, 0, none⟩ (.int .i64 0)).setCell ⟨R, 1, none⟩ (.pointer (some ⟨g, 0, none⟩))).setCell ⟨R, 2, none⟩ (.pointer (some ⟨Sh, 0, none⟩))).setCell ⟨R, 3, none⟩ (.pointer (some ⟨Rl, 0, none⟩)) = w8 at *
  clear r0 r1 r2 r3
  have r0 := cell_in (o := 0) FIN.out List.mem_cons_self rfl
  have r1 := cell_in (o := 1) FIN.out List.mem_cons_self rfl
  have r2 := cell_in (o := 2) FIN.out List.mem_cons_self rfl
  have r3 := cell_in (o := 3) FIN.out List.mem_cons_self rfl
  refine bodyPost_ret (v := .agg #[.int .i64 0, .pointer (some ⟨g, 0, none⟩), .pointer (some ⟨Sh, 0, none⟩), .pointer (some ⟨Rl, 0, none⟩)]) (by simp only [results, Tryz.f47]; go_simp) rfl ?_
  exact ⟨g, Sh, Rl, P, tp, tN, rfl, BK.out, FIN.out.tail⟩
theorem zero_ok {ev g kg Sh Rl : Nat} {P : Pool} {tp : List Nat} {tN : Nodes} (h1 : 1 ≤ ev) (h2 : ev ≤ 64) (hB : Bk P 16 16 tp tN noS) : (EM.zero ev).Ok 0 ⟨g, kg, Sh, Rl, P, tp, tp, tN, tN⟩ :=
  ⟨hB, hB, S0_ok, rfl, fun p hp => by
    have : p = .zero := by simpa [EM.zero] using (List.mem_replicate.1 hp).2
    subst this
    exact ⟨Or.inl ⟨rfl, rfl, rfl, rfl, rfl, rfl⟩, Int.le_refl _⟩, Nat.zero_le _, h1, h2⟩
set_option maxRecDepth 1000000 in
set_option maxHeartbeats 1600000 in
theorem NewE_bad {ev : Int} {w : World} (h : ¬ (1 ≤ ev ∧ ev ≤ 64)) : Calls Tryz.prog 21 #[.int .i64 ev] w fun e w' => e = .returned (.tuple #[.pointer none, .int .i64 80]) ∧ w' = w := by
  by_cases h1 : ev < 1
  · have d1 : decide (ev < 1) = true := by simpa using h1
    clear h h1
    go_enter Tryz.func21, Tryz.ntmps21
    go_wp2
    go_ret2
    exact ⟨rfl, rfl⟩
  · have d1 : decide (ev < 1) = false := by simpa using h1
    have d2 : decide (ev > 64) = true := by simp; omega
    have d3 : decide (64 < ev) = true := by simp; omega
    clear h h1
    go_enter Tryz.func21, Tryz.ntmps21
    go_wp2
    go_ret2
    exact ⟨rfl, rfl⟩
set_option maxRecDepth 1000000 in
set_option maxHeartbeats 1600000 in
theorem NewE_any {ev : Nat} {cs : List Comp} {w : World} (h1 : 1 ≤ ev) (h2 : ev ≤ 64) (A : All cs w) : Calls Tryz.prog 21 #[.int .i64 (ev : Int)] w fun e w' => ∃ X a, e = .returned (.tuple #[.pointer (some ⟨X, 0, none⟩), .int .i64 0]) ∧ (EM.zero ev).Ok 0 a ∧ All ((EM.zero ev).L X a cs) w' := by
  have d1 : decide ((ev : Int) < 1) = false := by simp; omega
  have d2 : decide ((ev : Int) > 64) = false := by simp; omega
  have d3 : decide (64 < (ev : Int)) = false := by simp; omega
  have C47 := hid (newState_any A)
  have OK := hid (fun g kg Sh Rl P tp tN hB => zero_ok (g := g) (kg := kg) (Sh := Sh) (Rl := Rl) (P := P) (tp := tp) (tN := tN) h1 h2 hB)
  clear A h1 h2
  go_enter Tryz.func21, Tryz.ntmps21
  go_upto_region 4 with (go_at_call 47; refine C47.out.mono ?_; rintro e w2 ⟨g, Sh, Rl, P, tp, tN, rfl, B2, A2⟩; have K2 := hid A2; have BK := hid B2; clear A2 B2)
  have K3 := hid (K2.out.addBlk [.int .i64 0, .pointer (some ⟨g, 0, none⟩), .pointer (some ⟨Sh, 0, none⟩), .pointer (some ⟨Rl, 0, none⟩), .int .i64 0, .pointer none, .int .i64 (ev : Int)] 92)
  obtain ⟨X, hX⟩ : ∃ X, Hid (X = w2.heap.size) := ⟨_, hid rfl⟩
  rw [← hX.out] at K3
  simp only [← hX.out]
  generalize w2.alloc (.cells #[.int .i64 0, .pointer (some ⟨g, 0, none⟩), .pointer (some ⟨Sh, 0, none⟩), .pointer (some ⟨Rl, 0, none⟩), .int .i64 0, .pointer none, .int .i64 (ev : Int)] 92) = w3 at *
  clear hX K2
  have C48 := hid (keep_gen (X := X) (op := 0) (g := g) BK.out rfl rfl rfl rfl K3.out)
  go_wp2_with (go_at_call 48; refine C48.out.mono ?_; rintro e w4 ⟨g2, rfl, A4⟩; have K4 := hid A4; clear A4)
  go_ret2
  refine ⟨X, ⟨g, g2, Sh, Rl, P, tp, tp, tN, tN⟩, rfl, OK.out _ _ _ _ _ _ _ BK.out, ?_⟩
  refine K4.out.perm ?_
  have := perm_by 5 [[blkC X (engV 0 g Sh Rl 0 g2 ev) 92, poolC P, blkC g (bookL 16 16 tp) 180], [blkC g2 (bookL 16 16 tp) 180], shL Sh S0, rollL Rl (List.replicate 8 .zero), cs] [0, 2, 3, 1, 4] rfl (by decide)
  simp only [List.flatten_cons, List.flatten_nil, List.map_cons, List.map_nil, List.getD_eq_getElem?_getD, List.getElem?_cons_zero, List.getElem?_cons_succ, Option.getD_some, List.append_nil, List.cons_append, List.nil_append] at this
  exact this
/-- What a book's sheets are, behind an op. -/
def shs (T : Sheets) (a : Nat) : List (Nat × Nat × List UInt8) := newS T a (List.range 16)
theorem stand_any {X o g : Nat} {XC : List Value} {tp : List Nat} {tN : Nodes} {P : Pool} {T : Sheets} {cs : List Comp} {w : World} {at_ : Int} (hB : Bk P 16 16 tp tN T) (hX : blkC X XC 92 ∈ cs) (h1 : XC[o + 1]? = some (.pointer (some ⟨g, 0, none⟩))) (A : All (poolC P :: blkC g (bookL 16 16 tp) 180 :: cs) w) :
    Calls Tryz.prog 49 #[.pointer (some ⟨X, o, none⟩), .int .i64 at_] w fun e w' => ∃ v ys, e = .returned v ∧ ys.map Xs.key = shs T at_.toNat ∧ All (rowC 78 3 v ys.length (flatX ys) :: (ys.map datC ++ poolC P :: blkC g (bookL 16 16 tp) 180 :: cs)) w' := by
  have hB2 : Bk P 16 (2 ^ 4) tp tN T := hB
  refine (since_any (n := 16) (h := 4) (o := o) (at_ := at_) A hX h1 hB2 (by omega)).mono ?_
  rintro e w' ⟨v, ys, rfl, hk, hA⟩
  refine ⟨v, ys, rfl, ?_, hA⟩
  rw [hk]
  exact hB2.foundAll
set_option maxRecDepth 1000000 in
set_option maxHeartbeats 1600000 in
theorem Sheets_any {N X : Nat} {e : EM} {a : EX} {cs : List Comp} {w : World} (hE : e.Ok N a) (A : All (e.L X a cs) w) : Calls Tryz.prog 29 #[.pointer (some ⟨X, 0, none⟩)] w fun r w' => ∃ v ys, r = .returned v ∧ ys.map Xs.key = shs e.T 0 ∧ All (rowC 78 3 v ys.length (flatX ys) :: (ys.map datC ++ e.L X a cs)) w' := by
  have C49 : Hid (Calls Tryz.prog 49 #[.pointer (some ⟨X, 0, none⟩), .int .i64 0] w fun r w' => ∃ v ys, r = .returned v ∧ ys.map Xs.key = shs e.T 0 ∧ All (rowC 78 3 v ys.length (flatX ys) :: (ys.map datC ++ e.L X a cs)) w') := hid (by
    refine (stand_any (X := X) (o := 0) (at_ := 0) (XC := engV e.op a.g a.Sh a.Rl e.kop a.kg e.ev) (cs := blkC X (engV e.op a.g a.Sh a.Rl e.kop a.kg e.ev) 92 :: (shL a.Sh e.S ++ (rollL a.Rl e.ps ++ (blkC a.kg (bookL 16 16 a.kp) 180 :: cs)))) hE.bt List.mem_cons_self rfl (A.perm ((List.Perm.swap _ _ _).trans ((List.Perm.swap _ _ _).cons _)))).mono ?_
    rintro r w' ⟨v, ys, rfl, hk, h⟩
    exact ⟨v, ys, rfl, hk, h.perm ((((List.Perm.swap _ _ _).cons _).trans (List.Perm.swap _ _ _)).append_left _ |>.cons _)⟩)
  clear A hE
  go_enter Tryz.func29, Tryz.ntmps29
  go_wp2_with (go_at_call 49; refine C49.out.mono ?_; rintro r w2 ⟨v, ys, rfl, hk, A2⟩; have K2 := hid A2; have HK := hid hk; clear A2 hk)
  go_ret
  exact ⟨v, ys, rfl, HK.out, K2.out⟩
set_option maxRecDepth 1000000 in
set_option maxHeartbeats 1600000 in
theorem SinceE_any {N X : Nat} {e : EM} {a : EX} {at_ : Int} {cs : List Comp} {w : World} (hE : e.Ok N a) (A : All (e.L X a cs) w) : Calls Tryz.prog 23 #[.pointer (some ⟨X, 0, none⟩), .int .i64 at_] w fun r w' => ∃ v ys, r = .returned v ∧ ys.map Xs.key = shs e.K at_.toNat ∧ All (rowC 78 3 v ys.length (flatX ys) :: (ys.map datC ++ e.L X a cs)) w' := by
  have C49 : Hid (Calls Tryz.prog 49 #[.pointer (some ⟨X, 4, none⟩), .int .i64 at_] w fun r w' => ∃ v ys, r = .returned v ∧ ys.map Xs.key = shs e.K at_.toNat ∧ All (rowC 78 3 v ys.length (flatX ys) :: (ys.map datC ++ e.L X a cs)) w') := hid (by
    have A2 : All (poolC a.P :: blkC a.kg (bookL 16 16 a.kp) 180 :: (blkC X (engV e.op a.g a.Sh a.Rl e.kop a.kg e.ev) 92 :: blkC a.g (bookL 16 16 a.tp) 180 :: (shL a.Sh e.S ++ (rollL a.Rl e.ps ++ cs)))) w := by
      refine A.perm ?_
      have := perm_by 7 [[blkC X (engV e.op a.g a.Sh a.Rl e.kop a.kg e.ev) 92], [poolC a.P], [blkC a.g (bookL 16 16 a.tp) 180], shL a.Sh e.S, rollL a.Rl e.ps, [blkC a.kg (bookL 16 16 a.kp) 180], cs] [1, 5, 0, 2, 3, 4, 6] rfl (by decide)
      simpa [List.getD, EM.L] using this
    refine (stand_any (X := X) (o := 4) (at_ := at_) (XC := engV e.op a.g a.Sh a.Rl e.kop a.kg e.ev) hE.bk List.mem_cons_self rfl A2).mono ?_
    rintro r w' ⟨v, ys, rfl, hk, h⟩
    refine ⟨v, ys, rfl, hk, h.perm (List.Perm.cons _ (List.Perm.append_left _ ?_))⟩
    have := perm_by 7 [[poolC a.P], [blkC a.kg (bookL 16 16 a.kp) 180], [blkC X (engV e.op a.g a.Sh a.Rl e.kop a.kg e.ev) 92], [blkC a.g (bookL 16 16 a.tp) 180], shL a.Sh e.S, rollL a.Rl e.ps, cs] [2, 0, 3, 4, 5, 1, 6] rfl (by decide)
    simpa [List.getD, EM.L] using this)
  clear A hE
  go_enter Tryz.func23, Tryz.ntmps23
  go_wp2_with (go_at_call 49; refine C49.out.mono ?_; rintro r w2 ⟨v, ys, rfl, hk, A2⟩; have K2 := hid A2; have HK := hid hk; clear A2 hk)
  go_ret
  exact ⟨v, ys, rfl, HK.out, K2.out⟩
end Go.Proofs.YtafickhhdemjnaaGreatDoor

namespace Go.Proofs.YtafickhhdemjnaaGreatDoor
open Go.RowKit
set_option linter.unusedVariables false
set_option maxRecDepth 100000

set_option maxRecDepth 1000000 in
set_option maxHeartbeats 1600000 in
/-- A client's row, told by the engine. -/
theorem LastE_any {N X i : Nat} {e : EM} {a : EX} {p : Pl} {cs : List Comp} {w : World} (hE : e.Ok N a) (hp : e.ps[i]? = some p) (hi : i < 8) (A : All (e.L X a cs) w) :
    Calls Tryz.prog 25 #[.pointer (some ⟨X, 0, none⟩), .int .i64 (i : Int)] w fun r w' => ∃ ao c', r = .returned (.tuple #[rowV p.n p.a p.c p.k (.slice ao p.l.length c'), .bool p.on]) ∧ All (ownC 9 (.slice ao p.l.length c') (cellsT p.l) :: e.L X a cs) w' := by
  have A1 := hid (A.addBlk [.int .i64 0, .int .i64 0, .int .i64 0, .int .i64 0, .slice none 0 0] 60)
  obtain ⟨R, hR⟩ : ∃ R, Hid (R = w.heap.size) := ⟨_, hid rfl⟩
  rw [← hR.out] at A1
  have hpo := (hE.pok p (List.mem_of_getElem? hp)).1
  have C51 : Hid (∀ W, All (blkC R [.int .i64 0, .int .i64 0, .int .i64 0, .int .i64 0, .slice none 0 0] 60 :: e.L X a cs) W → W.cell? ⟨X, 3, none⟩ = some (.pointer (some ⟨a.Rl, 0, none⟩)) ∧ Calls Tryz.prog 51 #[.pointer (some ⟨a.Rl, 0, none⟩), .int .i64 (i : Int)] W fun r w' => ∃ ao c', r = .returned (.tuple #[rowV p.n p.a p.c p.k (.slice ao p.l.length c'), .bool p.on]) ∧ All (blkC R [.int .i64 0, .int .i64 0, .int .i64 0, .int .i64 0, .slice none 0 0] 60 :: ownC 9 (.slice ao p.l.length c') (cellsT p.l) :: e.L X a cs) w') := hid (fun W h => by
    refine ⟨cell_in (P := X) (t := 92) (C := engV e.op a.g a.Sh a.Rl e.kop a.kg e.ev) h (by simp [EM.L]) rfl, ?_⟩
    have h2 : All (rollL a.Rl e.ps ++ ((blkC R [.int .i64 0, .int .i64 0, .int .i64 0, .int .i64 0, .slice none 0 0] 60 :: blkC X (engV e.op a.g a.Sh a.Rl e.kop a.kg e.ev) 92 :: poolC a.P :: blkC a.g (bookL 16 16 a.tp) 180 :: shL a.Sh e.S) ++ (blkC a.kg (bookL 16 16 a.kp) 180 :: cs))) W := by
      refine h.perm ?_
      have := perm_by 4 [blkC R [.int .i64 0, .int .i64 0, .int .i64 0, .int .i64 0, .slice none 0 0] 60 :: blkC X (engV e.op a.g a.Sh a.Rl e.kop a.kg e.ev) 92 :: poolC a.P :: [blkC a.g (bookL 16 16 a.tp) 180], shL a.Sh e.S, rollL a.Rl e.ps, blkC a.kg (bookL 16 16 a.kp) 180 :: cs] [2, 0, 1, 3] rfl (by decide)
      simpa [List.getD, EM.L] using this
    refine (Last_row h2 hp hi hpo).mono ?_
    rintro r w' ⟨ao, c', rfl, h3⟩
    refine ⟨ao, c', rfl, h3.perm ?_⟩
    have := perm_by 5 [[ownC 9 (.slice ao p.l.length c') (cellsT p.l)], rollL a.Rl e.ps, [blkC R [.int .i64 0, .int .i64 0, .int .i64 0, .int .i64 0, .slice none 0 0] 60], blkC X (engV e.op a.g a.Sh a.Rl e.kop a.kg e.ev) 92 :: poolC a.P :: blkC a.g (bookL 16 16 a.tp) 180 :: shL a.Sh e.S, blkC a.kg (bookL 16 16 a.kp) 180 :: cs] [2, 0, 3, 1, 4] rfl (by decide)
    simpa [List.getD, EM.L] using this)
  clear A hpo
  go_enter Tryz.func25, Tryz.ntmps25
  go_upto_region 1 with fail
  simp only [← hR.out]
  generalize w.alloc (.cells #[.int .i64 0, .int .i64 0, .int .i64 0, .int .i64 0, .slice none 0 0] 60) = w1 at *
  clear hR
  obtain ⟨x3, C⟩ := C51.out w1 A1.out
  have CC := hid C
  clear C C51 A1
  go_wp2_with (go_at_call 51; refine CC.out.mono ?_; rintro r w2 ⟨ao, c', rfl, A2⟩; have K2 := hid A2; clear A2; have r0 := cell_in (o := 0) K2.out List.mem_cons_self rfl; have r1 := cell_in (o := 1) K2.out List.mem_cons_self rfl; have r2 := cell_in (o := 2) K2.out List.mem_cons_self rfl; have r3 := cell_in (o := 3) K2.out List.mem_cons_self rfl; have r4 := cell_in (o := 4) K2.out List.mem_cons_self rfl; have f0 := free_in K2.out List.mem_cons_self 0; have f1 := free_in K2.out List.mem_cons_self 1; have f2 := free_in K2.out List.mem_cons_self 2; have f3 := free_in K2.out List.mem_cons_self 3; have f4 := free_in K2.out List.mem_cons_self 4; have lR : R < w2.heap.size := lt_in K2.out List.mem_cons_self)
  have FIN := hid (((((K2.out.setBlk 0 (.int .i64 p.n)).setBlk 1 (.int .i64 p.a)).setBlk 2 (.int .i64 p.c)).setBlk 3 (.int .i64 p.k)).setBlk 4 (.slice ao p.l.length c'))
  simp only [List.set_cons_zero, List.set_cons_succ] at FIN
  generalize ((((w2.setCell ⟨R, 0, none⟩ (.int .i64 p.n)).setCell ⟨R, 1, none⟩ (.int .i64 p.a)).setCell ⟨R, 2, none⟩ (.int .i64 p.c)).setCell ⟨R, 3, none⟩ (.int .i64 p.k)).setCell ⟨R, 4, none⟩ (.slice ao p.l.length c') = w8 at *
  clear r0 r1 r2 r3 r4
  have r0 := cell_in (o := 0) FIN.out List.mem_cons_self rfl
  have r1 := cell_in (o := 1) FIN.out List.mem_cons_self rfl
  have r2 := cell_in (o := 2) FIN.out List.mem_cons_self rfl
  have r3 := cell_in (o := 3) FIN.out List.mem_cons_self rfl
  have r4 := cell_in (o := 4) FIN.out List.mem_cons_self rfl
  refine bodyPost_ret (v := .tuple #[rowV p.n p.a p.c p.k (.slice ao p.l.length c'), .bool p.on]) (by simp only [results, Tryz.f25]; go_simp) rfl ?_
  exact ⟨ao, c', rfl, FIN.out.tail⟩
end Go.Proofs.YtafickhhdemjnaaGreatDoor

import Derived.Test.YtblojlaifnmimaaGreatDoorBl
import Derived.Test.YtblojlaifnmimaaGreatDoorSz
import Derived.Test.YtblojlaifnmimaaGreatDoorSx
namespace Go.Proofs.YtblojlaifnmimaaGreatDoor
open Go.RowKit
set_option linter.unusedVariables false

/-- A play that a function holds. -/
structure PV (V : List Value) (c : List Int) (ss : List Sp) (D : List Comp) : Prop where
  i : (Tryz.prog.info? 27).map (·.size) = some V.toArray.size
  o : V.toArray.all (·.oneCell') = true
  z : 11 = V.toArray.size
  c10 : c.length = 10
  n : ss.length ≤ 140737488355328
  s : ∀ s ∈ ss, spI s
  v : ∃ v, V = cI c ++ [v] ∧ ∀ W, All D W → Sps W v ss
theorem PV.mk' {c : List Int} {v : Value} {ss : List Sp} {D : List Comp} (hf : ∃ a n k, v = .slice a n k) (hc : c.length = 10) (hn : ss.length ≤ 140737488355328) (hs : ∀ s ∈ ss, spI s) (h : ∀ W, All D W → Sps W v ss) : PV (cI c ++ [v]) c ss D := by
  obtain ⟨a, n, k, rfl⟩ := hf
  exact ⟨by rw [Tryz.i27]; simp [cI_len, hc], pl_one c a n k, by simp [cI_len, hc], hc, hn, hs, _, rfl, h⟩
theorem PV.mono {V : List Value} {c : List Int} {ss : List Sp} {D D' : List Comp} (h : PV V c ss D) (hD : ∀ W, All D' W → All D W) : PV V c ss D' := by
  obtain ⟨v, e, hv⟩ := h.v
  exact ⟨h.i, h.o, h.z, h.c10, h.n, h.s, v, e, fun W hW => hv W (hD W hW)⟩
theorem parse_bad {l : List UInt8} {n : Nat} {k : Int} (h : parseW l = .bad n k) : k ≠ 0 := by
  have key : ∀ (ls : Ws) (i : Nat) (s : Ps), goL i s ls = .bad n k → k ≠ 0 := by
    intro ls
    induction ls with
    | nil =>
      intro i s h
      rw [goL] at h
      split at h
      · simp only [PA.bad.injEq] at h
        obtain ⟨_, rfl⟩ := h
        decide
      · simp at h
    | cons x r ih =>
      intro i s h
      rw [goL] at h
      split at h
      · exact ih _ _ h
      · split at h
        · rename_i e he
          simp only [PA.bad.injEq] at h
          obtain ⟨_, rfl⟩ := h
          exact lineL_bad he
        · exact ih _ _ h
  unfold parseW at h
  split at h
  · simp only [PA.bad.injEq] at h
    obtain ⟨_, rfl⟩ := h
    decide
  · exact key _ _ _ h
theorem PV.print {V : List Value} {c : List Int} {ss : List Sp} {D : List Comp} (h : PV V c ss D) (hE : ∀ W, All D W → En W) {W : World} (A : All D W) : Calls Tryz.prog 13 #[.agg V.toArray] W fun e w' => e = .returned (.tuple #[.string ⟨(printT c ss).toArray⟩, .int .i64 (printE c ss)]) ∧ All D w' := by
  obtain ⟨v, rfl, hv⟩ := h.v
  exact (Print_any (hE W A) h.c10 (hv W A) h.s h.n).mono fun e w' ⟨he, hb⟩ => ⟨he, A.later hb⟩
theorem PV.same {V U : List Value} {a b : List Int} {sa sb : List Sp} {D : List Comp} (h : PV V a sa D) (k : PV U b sb D) {W : World} (A : All D W) : Calls Tryz.prog 11 #[.agg V.toArray, .agg U.toArray] W fun e w' => e = .returned (.bool (decide (a = b ∧ sa = sb))) ∧ All D w' := by
  obtain ⟨v, rfl, hv⟩ := h.v
  obtain ⟨u, rfl, hu⟩ := k.v
  exact same_any A h.c10 k.c10 hv hu h.n k.n
theorem PV.parse {l : List UInt8} {c : List Int} {ss : List Sp} {D : List Comp} (hp : parseW l = .ok c ss) (hl : l.length ≤ 140737488355328) (hE : ∀ W, All D W → En W) {W : World} (A : All D W) : Calls Tryz.prog 9 #[.string ⟨l.toArray⟩] W fun e w' => ∃ V sv, e = .returned (.tuple #[.agg V.toArray, .int .i64 0, .int .i64 0]) ∧ PV V c ss (sv :: D) ∧ All (sv :: D) w' := by
  have P := Parse_any A hE hl
  rw [hp] at P
  refine P.mono ?_
  rintro e w' ⟨v, he, h⟩
  obtain ⟨_, h2, h3, h4⟩ := parse_good hp
  obtain ⟨a1, c1, hv⟩ := owns_form (h.1.2.1 : w'.ownsRow 0 43 10 v ss.length _)
  exact ⟨_, _, he, PV.mk' ⟨_, _, _, hv⟩ h2 (by omega) (fun s hs => (h4 s hs).2) (fun W h => sps_mem h (.head _)), h⟩
def Imp (w : World) (D : List Comp) : Prop := ∀ W, All D W → All [inC w] W
theorem Imp.tail {w : World} {D : List Comp} {c : Comp} (h : Imp w D) : Imp w (c :: D) := fun W k => h W k.tail
theorem Imp.en {w : World} {D : List Comp} (h : Imp w D) (E : En w) : ∀ W, All D W → En W := fun W k => E.later ((h W k).into (by simp))
theorem play_pack {c : List Int} {ss : List Sp} {w : World} (E : En w) (hc : c.length = 10) (hI : ∀ s ∈ ss, spI s) (h : printE c ss = 0) : ∃ X : ByteArray, X = ⟨(printT c ss).toArray⟩ ∧ (∀ V D W, PV V c ss D → Imp w D → All D W → Calls Tryz.prog 13 #[.agg V.toArray] W fun e w' => e = .returned (.tuple #[.string X, .int .i64 0]) ∧ All D w') ∧ (∀ D W, Imp w D → All D W → Calls Tryz.prog 9 #[.string X] W fun e w' => ∃ V sv, e = .returned (.tuple #[.agg V.toArray, .int .i64 0, .int .i64 0]) ∧ PV V c ss (sv :: D) ∧ All (sv :: D) w') := by
  refine ⟨⟨(printT c ss).toArray⟩, rfl, fun V D W hV hD A => ?_, fun D W hD A => ?_⟩
  · have := hV.print (hD.en E) A
    rwa [h] at this
  · refine PV.parse (parse_print hc hI h) ?_ (hD.en E) A
    have hp := parse_print hc hI h
    by_cases hl : 65536 < (printT c ss).length
    · unfold parseW at hp
      rw [if_pos hl] at hp
      simp at hp
    · omega
theorem same_pack {c : List Int} {ss : List Sp} : ∀ V U D W, PV V c ss D → PV U c ss D → All D W → Calls Tryz.prog 11 #[.agg V.toArray, .agg U.toArray] W fun e w' => e = .returned (.bool true) ∧ All D w' := fun V U D W hV hU A => by
  have := hV.same hU A
  rwa [decide_eq_true ⟨rfl, rfl⟩] at this
theorem play_new (W : World) : (W.alloc (.cells #[.int .i64 0, .int .i64 0, .int .i64 0, .int .i64 0, .int .i64 0, .int .i64 0, .int .i64 0, .int .i64 0, .int .i64 0, .int .i64 0, .slice none 0 0] 27)).heap[W.heap.size]? = some (.cells #[.int .i64 0, .int .i64 0, .int .i64 0, .int .i64 0, .int .i64 0, .int .i64 0, .int .i64 0, .int .i64 0, .int .i64 0, .int .i64 0, .slice none 0 0] 27 (0, 0)) := heap_alloc_new W _

set_option maxHeartbeats 3200000 in
set_option maxRecDepth 1000000 in
theorem back_law {c : List Int} {v : Value} {ss : List Sp} {l : List UInt8} {w : World} (E : En w) (hc : c.length = 10) (hv : Sps w v ss) (hI : ∀ s ∈ ss, spI s) (hn : ss.length ≤ 140737488355328) (hl : l.length ≤ 140737488355328) :
    Calls Tryz.prog 5 #[.agg (cI c ++ [v]).toArray, .string ⟨l.toArray⟩] w fun e w' => e = .returned (.bool true) ∧ Below w.heap.size w w' := by
  have P00 : PV (cI c ++ [v]) c ss [inC w] := PV.mk' (by obtain ⟨ao, k, e⟩ := hv.form; exact ⟨_, _, _, e⟩) hc hn hI (fun W h => hv.later (h.into (by simp)))
  have A0 := hid ((All.came w).addBlk (cI c ++ [v]) 27)
  have I0 : Hid (Imp w [blkC w.heap.size (cI c ++ [v]) 27, inC w]) := hid (fun W h => h.tail)
  have P0 := hid (P00.mono I0.out)
  have SH : Hid (∀ D W, Imp w D → All D W → Calls Tryz.prog 8 #[] W fun e w' => e = .returned (.bool true) ∧ All D w') := hid (fun D W hD A => shown_any A (hD.en E))
  have PT : Hid (∀ V D W, PV V c ss D → Imp w D → All D W → Calls Tryz.prog 13 #[.agg V.toArray] W fun e w' => e = .returned (.tuple #[.string ⟨(printT c ss).toArray⟩, .int .i64 (printE c ss)]) ∧ All D w') := hid (fun V D W hV hD A => hV.print (hD.en E) A)
  have PL : Hid (∀ D W, Imp w D → All D W → Calls Tryz.prog 9 #[.string ⟨l.toArray⟩] W (PPost (parseW l) D)) := hid (fun D W hD A => Parse_any A (hD.en E) hl)
  have PG : Hid (∀ c ss, parseW l = .ok c ss → ∀ D W, Imp w D → All D W → Calls Tryz.prog 9 #[.string ⟨l.toArray⟩] W fun e w' => ∃ V sv, e = .returned (.tuple #[.agg V.toArray, .int .i64 0, .int .i64 0]) ∧ PV V c ss (sv :: D) ∧ All (sv :: D) w') := hid (fun c ss hp D W hD A => PV.parse hp hl (hD.en E) A)
  have PB : Hid (∀ n k, parseW l = .bad n k → k ≠ 0) := hid (fun n k hp => parse_bad hp)
  have PP : Hid (printE c ss = 0 → ∃ X : ByteArray, X = ⟨(printT c ss).toArray⟩ ∧ (∀ V D W, PV V c ss D → Imp w D → All D W → Calls Tryz.prog 13 #[.agg V.toArray] W fun e w' => e = .returned (.tuple #[.string X, .int .i64 0]) ∧ All D w') ∧ (∀ D W, Imp w D → All D W → Calls Tryz.prog 9 #[.string X] W fun e w' => ∃ V sv, e = .returned (.tuple #[.agg V.toArray, .int .i64 0, .int .i64 0]) ∧ PV V c ss (sv :: D) ∧ All (sv :: D) w')) := hid (fun h => play_pack E hc hI h)
  have PQ : Hid (∀ c ss, parseW l = .ok c ss → printE c ss = 0 → ∃ X : ByteArray, X = ⟨(printT c ss).toArray⟩ ∧ (∀ V D W, PV V c ss D → Imp w D → All D W → Calls Tryz.prog 13 #[.agg V.toArray] W fun e w' => e = .returned (.tuple #[.string X, .int .i64 0]) ∧ All D w') ∧ (∀ D W, Imp w D → All D W → Calls Tryz.prog 9 #[.string X] W fun e w' => ∃ V sv, e = .returned (.tuple #[.agg V.toArray, .int .i64 0, .int .i64 0]) ∧ PV V c ss (sv :: D) ∧ All (sv :: D) w')) := hid (fun c ss hp h => play_pack E (parse_good hp).2.1 (fun s hs => ((parse_good hp).2.2.2 s hs).2) h)
  have PE : Hid (∀ c ss, parseW l = .ok c ss → printE c ss = 0 ∨ (printE c ss = 172 ∧ ∀ V D W, PV V c ss D → Imp w D → All D W → Calls Tryz.prog 13 #[.agg V.toArray] W fun e w' => ∃ Y, e = .returned (.tuple #[.string Y, .int .i64 172]) ∧ All D w')) := hid (fun c ss hp => by
    rcases print_good hp with h | h
    · exact Or.inl h
    · refine Or.inr ⟨h, fun V D W hV hD A => ?_⟩
      have := hV.print (hD.en E) A
      rw [h] at this
      exact this.mono fun e w' ⟨he, hA⟩ => ⟨_, he, hA⟩)
  clear P00 hv hI hn hl hc E
  generalize ByteArray.mk l.toArray = XL at *
  generalize hV : cI c ++ [v] = V0 at *
  clear hV
  generalize hX0 : ByteArray.mk (printT c ss).toArray = X0 at *
  clear hX0
  have SM := hid (same_pack (c := c) (ss := ss))
  generalize hE1 : printE c ss = E1 at *
  go_enter Tryz.func5, Tryz.ntmps5
  go_upto_if 30 with (first | (go_at_call 8; refine (SH.out _ _ I0.out A0.out).mono ?_; rintro e w1 ⟨rfl, A1⟩; have K1 := hid A1; clear A1; have H1 := hid K1.out.1.2.1) | (refine wpList_load_row rfl 27 _ rfl w.heap.size rfl 27 V0.toArray (0, 0) _ H1.out Tryz.underlying27 rfl P0.out.i ?_) | (go_at_call 13; refine (PT.out _ _ _ P0.out I0.out K1.out).mono ?_; rintro e w2 ⟨rfl, A2⟩; have K2 := hid A2; clear A2))
  clear PT SH K1 H1 A0
  go_cut [4] (fun s wx => All [inC w] wx)
  case first =>
    by_cases hz : E1 = 0
    · subst hz
      obtain ⟨X1, rfl, pr1, ps1⟩ := PP.out rfl
      have PR1 := hid pr1
      have PS1 := hid ps1
      clear pr1 ps1 PP PQ PE PG PL PB hE1
      go_upto_region 5 with (first | (go_at_call 9; refine (PS1.out _ _ I0.out K2.out).mono ?_; rintro e w3 ⟨V1, s1, rfl, p1, A3⟩; have P1 := hid p1; have K3 := hid A3; clear p1 A3) | (refine wpList_store_row rfl 27 _ _ rfl w3.heap.size V1.toArray rfl rfl 27 _ (play_new w3) P1.out.i P1.out.z P1.out.o ?_; rw [World.setRow_alloc_new]))
      clear K2 PS1
      have K4 := hid (K3.out.addBlk V1 27)
      have P0' := hid (P0.out.mono (fun W (h : All (blkC w3.heap.size V1 27 :: s1 :: [blkC w.heap.size V0 27, inC w]) W) => h.tail.tail))
      have P1' := hid (P1.out.mono (fun W (h : All (blkC w3.heap.size V1 27 :: s1 :: [blkC w.heap.size V0 27, inC w]) W) => h.tail))
      have I1 : Hid (Imp w (blkC w3.heap.size V1 27 :: s1 :: [blkC w.heap.size V0 27, inC w])) := hid I0.out.tail.tail
      clear K3 P0 P1 I0
      generalize w3.heap.size = G1 at *
      generalize w3.alloc (.cells V1.toArray 27) = w4 at *
      have H4 := hid K4.out.1.2.1
      go_upto_region 7 with (first | (refine wpList_load_row rfl 27 _ rfl G1 rfl 27 V1.toArray (0, 0) _ H4.out Tryz.underlying27 rfl P1'.out.i ?_) | (go_at_call 13; refine (PR1.out _ _ _ P1'.out I1.out K4.out).mono ?_; rintro e w5 ⟨rfl, A5⟩; have K5 := hid A5; clear A5; have H5 := hid K5.out.1.2.1; have H6 := hid (K5.out.tail.tail.1.2.1)) | (refine wpList_load_row rfl 27 _ rfl G1 rfl 27 V1.toArray (0, 0) _ H5.out Tryz.underlying27 rfl P1'.out.i ?_) | (refine wpList_load_row rfl 27 _ rfl w.heap.size rfl 27 V0.toArray (0, 0) _ H6.out Tryz.underlying27 rfl P0'.out.i ?_) | (go_at_call 11; refine (SM.out _ _ _ _ P1'.out P0'.out K5.out).mono ?_; rintro e w6 ⟨rfl, A6⟩; have K6 := hid A6; clear A6))
      clear K4 H4 PR1 SM K5 H5 H6
      go_wp2
      go_meet
      exact I1.out _ K6.out
    · have hz' : (E1 == 0) = false := by simpa using hz
      go_wp2
      go_meet
      exact I0.out _ K2.out
  case rest =>
    have K := hid hcut
    clear hcut SM PP K2 P0 I0
    have J0 : Hid (Imp w [inC w]) := hid (fun W h => h)
    cases hp : parseW l with
    | bad n k =>
      have hk' : (k != 0) = true := by simpa using PB.out n k hp
      have C := hid (PL.out _ _ J0.out K.out)
      rw [hp] at C
      have C2 : Hid (Calls Tryz.prog 9 #[.string XL] wc fun e w' => ∃ V sv, e = .returned (.tuple #[.agg V.toArray, .int .i64 (n : Int), .int .i64 k]) ∧ PV V zC [] (sv :: [inC w]) ∧ All (sv :: [inC w]) w') := hid (C.out.mono (by
        rintro e w' ⟨v, he, h⟩
        obtain ⟨a1, c1, hv⟩ := owns_form (h.1.2.1 : w'.ownsRow 0 43 10 v 0 _)
        exact ⟨_, _, he, PV.mk' ⟨_, _, _, hv⟩ zC_len (by simp) (fun s hs => by cases hs) (fun W h => sps_mem h (.head _)), h⟩))
      clear C PL PG PQ PE PB hp
      go_wp2_with (first | (go_at_call 9; refine C2.out.mono ?_; rintro e w3 ⟨V1, s1, rfl, p1, A3⟩; have P1 := hid p1; have K3 := hid A3; clear p1 A3) | (refine wpList_store_row rfl 27 _ _ rfl w3.heap.size V1.toArray rfl rfl 27 _ (play_new w3) P1.out.i P1.out.z P1.out.o ?_; rw [World.setRow_alloc_new]))
      have K4 := hid (K3.out.addBlk V1 27)
      go_ret
      exact ⟨rfl, K4.out.tail.tail.into (by simp)⟩
    | ok c2 s2 =>
      have SM := hid (same_pack (c := c2) (ss := s2))
      have PS := hid (PG.out c2 s2 hp)
      rcases PE.out c2 s2 hp with h0 | ⟨h0, pr⟩
      · obtain ⟨X2, hX2, pr2, ps2⟩ := PQ.out c2 s2 hp h0
        have PR2 := hid pr2
        have PS2 := hid ps2
        clear PL PG PQ PE PB hp pr2 ps2 hX2
        go_upto_region 10 with (first | (go_at_call 9; refine (PS.out _ _ J0.out K.out).mono ?_; rintro e w3 ⟨V1, s1, rfl, p1, A3⟩; have P1 := hid p1; have K3 := hid A3; clear p1 A3) | (refine wpList_store_row rfl 27 _ _ rfl w3.heap.size V1.toArray rfl rfl 27 _ (play_new w3) P1.out.i P1.out.z P1.out.o ?_; rw [World.setRow_alloc_new]))
        clear PS K
        have K4 := hid (K3.out.addBlk V1 27)
        have P1' := hid (P1.out.mono (fun W (h : All (blkC w3.heap.size V1 27 :: s1 :: [inC w]) W) => h.tail))
        have I1 : Hid (Imp w (blkC w3.heap.size V1 27 :: s1 :: [inC w])) := hid J0.out.tail.tail
        clear K3 P1 J0
        generalize w3.heap.size = G1 at *
        generalize w3.alloc (.cells V1.toArray 27) = w4 at *
        have H4 := hid K4.out.1.2.1
        go_upto_region 16 with (first | (refine wpList_load_row rfl 27 _ rfl G1 rfl 27 V1.toArray (0, 0) _ H4.out Tryz.underlying27 rfl P1'.out.i ?_) | (go_at_call 13; refine (PR2.out _ _ _ P1'.out I1.out K4.out).mono ?_; rintro e w5 ⟨rfl, A5⟩; have K5 := hid A5; clear A5) | (go_at_call 9; refine (PS2.out _ _ I1.out K5.out).mono ?_; rintro e w6 ⟨V2, s3, rfl, p2, A6⟩; have P2 := hid p2; have K6 := hid A6; clear p2 A6) | (refine wpList_store_row rfl 27 _ _ rfl w6.heap.size V2.toArray rfl rfl 27 _ (play_new w6) P2.out.i P2.out.z P2.out.o ?_; rw [World.setRow_alloc_new]))
        clear K4 H4 K5 PR2 PS2
        have K7 := hid (K6.out.addBlk V2 27)
        have P1n := hid (P1'.out.mono (fun W (h : All (blkC w6.heap.size V2 27 :: s3 :: (blkC G1 V1 27 :: s1 :: [inC w])) W) => h.tail.tail))
        have P2n := hid (P2.out.mono (fun W (h : All (blkC w6.heap.size V2 27 :: s3 :: (blkC G1 V1 27 :: s1 :: [inC w])) W) => h.tail))
        clear K6 P1' P2
        generalize w6.heap.size = G2 at *
        generalize w6.alloc (.cells V2.toArray 27) = w7 at *
        have H7 := hid K7.out.1.2.1
        have H8 := hid K7.out.tail.tail.1.2.1
        go_wp2_with (first | (refine wpList_load_row rfl 27 _ rfl G2 rfl 27 V2.toArray (0, 0) _ H7.out Tryz.underlying27 rfl P2n.out.i ?_) | (refine wpList_load_row rfl 27 _ rfl G1 rfl 27 V1.toArray (0, 0) _ H8.out Tryz.underlying27 rfl P1n.out.i ?_) | (go_at_call 11; refine (SM.out _ _ _ _ P2n.out P1n.out K7.out).mono ?_; rintro e w8 ⟨rfl, A8⟩; have K8 := hid A8; clear A8))
        go_ret
        exact ⟨rfl, (I1.out _ K8.out.tail.tail).into (by simp)⟩
      · have PR2 := hid pr
        clear PL PG PQ PE PB hp pr
        go_upto_region 10 with (first | (go_at_call 9; refine (PS.out _ _ J0.out K.out).mono ?_; rintro e w3 ⟨V1, s1, rfl, p1, A3⟩; have P1 := hid p1; have K3 := hid A3; clear p1 A3) | (refine wpList_store_row rfl 27 _ _ rfl w3.heap.size V1.toArray rfl rfl 27 _ (play_new w3) P1.out.i P1.out.z P1.out.o ?_; rw [World.setRow_alloc_new]))
        clear PS K
        have K4 := hid (K3.out.addBlk V1 27)
        have P1' := hid (P1.out.mono (fun W (h : All (blkC w3.heap.size V1 27 :: s1 :: [inC w]) W) => h.tail))
        have I1 : Hid (Imp w (blkC w3.heap.size V1 27 :: s1 :: [inC w])) := hid J0.out.tail.tail
        clear K3 P1 J0
        generalize w3.heap.size = G1 at *
        generalize w3.alloc (.cells V1.toArray 27) = w4 at *
        have H4 := hid K4.out.1.2.1
        go_wp2_with (first | (refine wpList_load_row rfl 27 _ rfl G1 rfl 27 V1.toArray (0, 0) _ H4.out Tryz.underlying27 rfl P1'.out.i ?_) | (go_at_call 13; refine (PR2.out _ _ _ P1'.out I1.out K4.out).mono ?_; rintro e w5 ⟨Y, rfl, A5⟩; have K5 := hid A5; clear A5))
        go_ret
        exact ⟨rfl, (I1.out _ K5.out).into (by simp)⟩
end Go.Proofs.YtblojlaifnmimaaGreatDoor

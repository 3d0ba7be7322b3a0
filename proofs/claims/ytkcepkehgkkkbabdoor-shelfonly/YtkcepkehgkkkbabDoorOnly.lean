import Derived.Test.YtkcepkehgkkkbabDoorJ52
import Derived.Test.YtkcepkehgkkkbabDoorKeep
namespace Go.Proofs.YtkcepkehgkkkbabDoor
open Go.RowKit
set_option linter.unusedVariables false

/-- The round's relation. -/
def ORel (w : World) (P i : Nat) (wr : World) : Prop := ∃ S : St, OkS i S ∧ All (shL P S ++ [inC w]) wr

theorem ReadsL.cell {w : World} {ao : Option Addr} {n c : Nat} {L : List (List UInt8)} (h : ReadsL w (.slice ao n c) L) {j : Nat} {l : List UInt8} (hj : L[j]? = some l) : ∃ g u, (ao = some ⟨g, 0, none⟩ ∧ w.cell? ⟨g, j, none⟩ = some u) ∧ Reads w u l := by
  obtain ⟨ao', c', e, hc, hr⟩ := h
  simp only [Value.slice.injEq] at e
  obtain ⟨rfl, _, _⟩ := e
  obtain ⟨hj2, rfl⟩ := List.getElem?_eq_some_iff.1 hj
  obtain ⟨g, u, e1, e2, _, e4⟩ := hr j hj2
  exact ⟨g, u, ⟨e1, e2⟩, e4⟩
theorem chkX_len {c n : Int} {l : List ByteArray} (h : chkX c n l = 0) : l.length ≤ 8 := by
  by_cases h8 : 8 < l.length
  · exfalso
    unfold chkX at h
    split at h
    · omega
    · split at h
      · omega
      · split at h
        · omega
        · omega
  · omega
theorem drop_front {a b : List Comp} {w : World} (h : All (a ++ b) w) : All b w := h.sublist (List.sublist_append_right _ _)
theorem slots_small {N P : Nat} {S : St} (hS : OkS N S) {cs : List Comp} {w : World} (h : All (shL P S ++ cs) w) : ∀ x ∈ S.map slB, x.length ≤ 140737488355328 := by
  intro x hx
  obtain ⟨s, hs, rfl⟩ := List.mem_map.1 hx
  obtain ⟨i, hi⟩ := List.getElem?_of_mem hs
  have := slB_len hS h hi
  omega

set_option maxHeartbeats 12800000 in
set_option maxRecDepth 1000000 in
theorem only_any {w : World} (hT : Tab w) {s : Value} {l : List Ov} (h : OpsAt w s l) (hl : l.length ≤ 4398046511104) :
    Calls Tryd.prog 3 #[s] w fun e w' => e = .returned (.bool true) ∧ Below w.heap.size w w' := by
  obtain ⟨ao, cp, rfl⟩ := h.form
  have HT := hid hT
  have HO := hid h
  clear h hT
  go_enter Tryd.func3, Tryd.ntmps3
  go_wp2_with fail
  refine (shown_any HT.out).mono ?_
  rintro e w1 ⟨rfl, B1⟩
  have A := hid ((All.came w).later B1)
  clear B1
  go_wp2_with fail
  refine (New_any A.out).mono ?_
  rintro e w2 ⟨P, rfl, A2, _, _⟩
  have A0 := hid (show ORel w P 0 w2 from ⟨S0, S0_ok, A2⟩)
  clear A2 A
  go_wp2
  go_loopw [4] (fun iv wr => ∃ (i : Nat), iv = .int .i64 (i : Int) ∧ i ≤ l.length ∧ Hid (ORel w P i wr)) (fun iv _ => l.length - (intOf iv).toNat)
  case atStart => exact ⟨0, rfl, by omega, A0⟩
  case round =>
    obtain ⟨i, rfl, hi, HR⟩ := hrel
    clear A0
    obtain ⟨S, hS, hA⟩ := HR.out
    have A := hid hA
    have HS := hid hS
    clear hA hS HR
    by_cases hlt : i < l.length
    · have el : decide ((i : Int) < (l.length : Int)) = true := by simpa using hlt
      go_wp2_with fail
      refine (slots_any HS.out A.out).mono ?_
      rintro e w3 ⟨ba, bc, ls, rfl, hls, A3⟩
      have HLS := hid hls
      have A3 := hid (A3.perm (ds := shL P S ++ (slsL (.slice ba 8 bc) ls ++ [inC w])) (by
        have := List.perm_append_comm_assoc (slsL (.slice ba 8 bc) ls) (shL P S) [inC w]
        simpa using this))
      clear hls A
      obtain ⟨g, o, ea, hg, F⟩ := HO.out.at (A3.out.into (by simp)) hlt
      subst ea
      have i1 : (0 : Int) ≤ (i : Int) := by omega
      have i3 : ¬ (i : Int) < 0 := by omega
      generalize hov : l[i] = ov at F
      obtain ⟨k, nm, tx, n, m⟩ := ov
      have HOV := hid hov
      clear hov
      have c0 := F.c0
      have c1 := F.c1
      have c2 := F.c2
      have c3 := F.c3
      have c4 := F.c4
      simp only at c0 c1 c2 c3 c4
      clear F
      by_cases hk : chkA k nm.size tx.size n m = 0
      · by_cases hq : isQ k = true
        · have HK := hid hk
          have HQ := hid hq
          go_wp2_with fail
          refine (Ask_any HS.out (by omega) (fun w' h' => HT.out.below (h'.into (by simp))) hk hq A3.out).mono ?_
          rintro e w4 ⟨S1, c1', x1, it1, j1', sa1, sc1, rfl, hD1, A4⟩
          obtain rfl := (deed_query hq hD1 hD1).1
          have HD1 := hid hD1
          generalize hL1 : it1.length = L1 at A4
          have HL1 := hid hL1
          clear hL1 hD1
          have A4 := hid ((A4.addBlk [.int .i64 c1', .int .i64 x1, .slice sa1 L1 sc1] 30).perm (ds := shL P S1 ++ (blkC w4.heap.size [.int .i64 c1', .int .i64 x1, .slice sa1 L1 sc1] 30 :: ownC 9 (.slice sa1 L1 sc1) (txtV it1) :: (slsL (.slice ba 8 bc) ls ++ [inC w]))) List.perm_middle.symm)
          clear A3 hk hq
          have HB := hid (slots_small HS.out A4.out)
          go_wp2_with fail
          refine (slots_any HS.out A4.out).mono ?_
          rintro e w5 ⟨da, dc, ls2, rfl, hls2, A5⟩
          have R2 := hid (readsL_of A5)
          rw [hls2] at R2
          have A5 := hid (drop_front A5)
          have R1 := hid (readsL_of (drop_front A5.out).tail.tail)
          rw [HLS.out] at R1
          clear hls2 A4
          go_wp2_with fail
          refine (sameSlots_true R1.out R2.out HB.out (by rw [List.length_map]; have := HS.out.len; omega)).mono ?_
          rintro e w6 ⟨rfl, B6⟩
          have A6 := hid (A5.out.later B6)
          clear B6 R1 R2 A5 c0 c1 c2 c3 c4
          obtain ⟨g', o', ea, hg', F⟩ := HO.out.at (A6.out.into (by simp)) hlt
          cases ea
          rw [HOV.out] at F
          have c0 := F.c0
          have c1 := F.c1
          have c2 := F.c2
          have c3 := F.c3
          have c4 := F.c4
          simp only at c0 c1 c2 c3 c4
          clear F
          have HT2 : Hid (∀ w', All (shL P S1 ++ (blkC w4.heap.size [.int .i64 c1', .int .i64 x1, .slice sa1 L1 sc1] 30 :: ownC 9 (.slice sa1 L1 sc1) (txtV it1) :: (slsL (.slice ba 8 bc) ls ++ [inC w]))) w' → Tab w') := hid (fun w' h' => HT.out.below (h'.into (by simp)))
          go_wp2_with fail
          refine (Do_any HS.out (by omega) HT2.out HK.out A6.out).mono ?_
          rintro e w7 ⟨S2, c2', x2, it2, j2, sa2, sc2, rfl, hD, A7⟩
          have HE := hid (deed_query HQ.out HD1.out hD)
          have HS2 := hid (deed_ok HS.out (tidy_of A6.out) HK.out hD)
          have HD := hid hD
          have HX := hid (deed_res HS.out HK.out hD)
          have HJ := hid (deed_range HS.out hD)
          have HCH := hid (fun (n : Nat) (s s' : Option Qs) (hs : S1[n]? = some s) (hs' : S2[n]? = some s') => deed_slots HS.out HS2.out A6.out A7 hD hs hs')
          have HIT : Hid (it2.length ≤ 9223372036854775807) := by
            have := chkX_len HX.out
            show _ ≤ _
            omega
          generalize hL2 : it2.length = L2 at A7
          have HL2 := hid hL2
          clear hL2
          have A7 := hid ((A7.addBlk [.int .i64 c2', .int .i64 x2, .slice sa2 L2 sc2] 30).perm (ds := shL P S2 ++ (blkC w7.heap.size [.int .i64 c2', .int .i64 x2, .slice sa2 L2 sc2] 30 :: ownC 9 (.slice sa2 L2 sc2) (txtV it2) :: (blkC w4.heap.size [.int .i64 c1', .int .i64 x1, .slice sa1 L1 sc1] 30 :: ownC 9 (.slice sa1 L1 sc1) (txtV it1) :: (slsL (.slice ba 8 bc) ls ++ [inC w])))) List.perm_middle.symm)
          clear hD A6 c0 c1 c2 c3 c4 hg' HT2
          go_wp2_with fail
          refine (slots_any HS2.out A7.out).mono ?_
          rintro e w8 ⟨fa, fc, ls3, rfl, hls3, A8⟩
          have HL3 := hid hls3
          have A8 := hid A8
          clear hls3 A7
          obtain ⟨g', o', ea, hg', F⟩ := HO.out.at (A8.out.into (by simp)) hlt
          cases ea
          rw [HOV.out] at F
          have c0 := F.c0
          have c1 := F.c1
          have c2 := F.c2
          have c3 := F.c3
          have c4 := F.c4
          simp only at c0 c1 c2 c3 c4
          clear F
          have CB := check_any (HT.out.below (A8.out.into (by simp))) k nm tx n m
          rw [HK.out] at CB
          go_wp2_with fail
          refine CB.mono ?_
          rintro e w9 ⟨rfl, B9⟩
          have A9 := hid (A8.out.later B9)
          clear B9 A8 c0 c1 c2 c3 c4 hg' CB
          have AX := hid (drop_front (drop_front A9.out))
          have r0 := AX.out.r0
          have r1 := AX.out.r1
          have r2 := AX.out.r2
          have TX := hid (txts_of (e := 9) AX.out mem2)
          have CX := checkX_any c2' x2 TX.out HIT.out
          rw [HX.out] at CX
          clear AX
          go_wp2_with fail
          refine CX.mono ?_
          rintro e w10 ⟨rfl, B10⟩
          have A10 := hid (A9.out.later B10)
          clear B10 A9 r0 r1 r2 TX CX
          obtain ⟨g', o', ea, hg', F⟩ := HO.out.at (A10.out.into (by simp)) hlt
          cases ea
          rw [HOV.out] at F
          have c0 := F.c0
          have c1 := F.c1
          have c2 := F.c2
          have c3 := F.c3
          have c4 := F.c4
          simp only at c0 c1 c2 c3 c4
          clear F
          go_wp2_with fail
          refine (query_any k).mono ?_
          rw [show decide (6 ≤ k ∧ k ≤ 8) = true from HQ.out]
          rintro e w11 ⟨rfl, rfl⟩
          clear c0 c1 c2 c3 c4 hg'
          obtain ⟨_, _, hc12, hx12, hi12⟩ := HE.out
          subst hc12 hx12 hi12
          have AX := hid (drop_front (drop_front A10.out))
          have AY := hid AX.out.tail.tail
          have r0 := AX.out.r0
          have r1 := AX.out.r1
          have r2 := AX.out.r2
          have y0 := AY.out.r0
          have y1 := AY.out.r1
          have y2 := AY.out.r2
          have SR := sameResult_true c1' x1 (txts_of (e := 9) AX.out mem2) (txts_of (e := 9) AY.out mem2) (by have := chkX_len HX.out; omega)
          clear AX AY
          go_wp2_with fail
          refine SR.mono ?_
          rintro e w12 ⟨rfl, B12⟩
          have A12 := hid (A10.out.later B12)
          clear B12 A10 r0 r1 r2 y0 y1 y2 SR HE
          have R1 := hid (readsL_of (drop_front (drop_front A12.out)).tail.tail.tail.tail)
          have R3 := hid (readsL_of A12.out)
          rw [HLS.out] at R1
          rw [HL3.out] at R3
          have HL8 := hid (fun (n : Nat) (s' : Option Qs) (hs' : S2[n]? = some s') => slB_len (P := P) HS2.out (drop_front A12.out) hs')
          have j1 : decide (j2 < -1) = false := by have := HJ.out; simp; omega
          have j3 : decide (8 ≤ j2) = false := by have := HJ.out; simp; omega
          clear HX HIT HL2 HD HD1 HL1
          go_wp2
          go_loopw [12] (fun nv wr2 => ∃ (n : Nat), nv = .int .i64 (n : Int) ∧ n ≤ 8 ∧ Hid (Below w12.heap.size w12 wr2)) (fun nv _ => 8 - (intOf nv).toNat)
          case atStart => exact ⟨0, rfl, by omega, hid (Below.refl _ _)⟩
          case round =>
            obtain ⟨n', rfl, hn8, BN⟩ := hrel
            by_cases hnl : n' < 8
            · obtain ⟨s1, hs1⟩ : ∃ s1, S1[n']? = some s1 := ⟨_, List.getElem?_eq_getElem (by have := HS.out.len; omega)⟩
              obtain ⟨s2, hs2⟩ : ∃ s2, S2[n']? = some s2 := ⟨_, List.getElem?_eq_getElem (by have := HS2.out.len; omega)⟩
              have hlen2 := HL8.out n' s2 hs2
              have hiff := HCH.out n' s1 s2 hs1 hs2
              have hlen1 := HB.out (slB s1) (List.mem_of_getElem? (i := n') (by rw [List.getElem?_map, hs1]; rfl))
              obtain ⟨p1, v1, ⟨ea1, e1⟩, f1⟩ := (R1.out.below BN.out).cell (l := slB s1) (j := n') (by rw [List.getElem?_map, hs1]; rfl)
              obtain ⟨p2, v2, ⟨ea2, e2⟩, f2⟩ := (R3.out.below BN.out).cell (l := slB s2) (j := n') (by rw [List.getElem?_map, hs2]; rfl)
              subst ea1 ea2
              have ST : Hid (∀ q, Calls Tryd.prog 15 #[v1, v2] (wr.drewN q) fun e w' => e = .returned (.bool (decide (slB s1 = slB s2))) ∧ ∃ m, w' = (wr.drewN q).drewN m) := hid (fun q => same_dec (f1.kept (bdN wr q).size (fun k hk => (bdN wr q).block k (f1.block k hk))) (f2.kept (bdN wr q).size (fun k hk => (bdN wr q).block k (f2.block k hk))) hlen1)
              obtain ⟨ua1, uc1, rfl⟩ := f1.form
              obtain ⟨ua2, uc2, rfl⟩ := f2.form
              clear f1 f2 hlen1
              have hbe : decide (slB s1 = slB s2) = ((n' : Int) != j2) := by
                by_cases hh : slB s1 = slB s2
                · rw [decide_eq_true hh]
                  have := hiff.1 hh
                  simpa using this
                · rw [decide_eq_false hh]
                  have : ¬ (n' : Int) ≠ j2 := fun e => hh (hiff.2 e)
                  simp only [ne_eq, Classical.not_not] at this
                  rw [this]
                  simp
              rw [hbe] at ST
              generalize hbb : ((n' : Int) != j2) = bb at ST
              generalize (slB s1).length = L1' at *
              generalize (slB s2).length = L2' at *
              have q1 : decide ((2197 : Int) < (L2' : Int)) = false := by simp; omega
              have q2 : decide (2197 < L2') = false := by simp; omega
              have q3 : (bb != bb) = false := by simp
              have q4 : (0 : Int) ≤ (n' : Int) := by omega
              have q5 : (n' : Int) < 8 := by omega
              have q6 : decide ((n' : Int) < 8) = true := by simp; omega
              clear hiff hbe hs1 hs2 hlen2
              go_wp2_with fail
              go_quiet (first | (go_at_call 15; exact Calls.quiet_of (ST.out _)))
              go_wp2
              go_roundw
              case rel => exact ⟨n' + 1, by go_num, by omega, hid (BN.out.trans ((bdN wr nq).mono BN.out.size))⟩
              case measure => simp [intOf]; omega
            · obtain rfl : n' = 8 := by omega
              have A11 := hid (A12.out.later BN.out)
              clear BN R1 R3 A12
              go_wp2
              go_roundw
              case rel => exact ⟨i + 1, by go_num, by omega, hid ⟨S2, HS2.out, (drop_front A11.out).sublist (List.Sublist.append (.refl _) (.cons _ (.cons _ (.cons _ (.cons _ (List.sublist_append_right _ _))))))⟩⟩
              case measure => simp [intOf]; omega
        · have hq : isQ k = false := by simpa using hq
          have HK := hid hk
          have HQ := hid hq
          go_wp2_with fail
          refine (Ask_not (HT.out.below (A3.out.into (by simp))) hk hq A3.out).mono ?_
          rintro e w4 ⟨rfl, A4⟩
          have A4 := hid ((A4.addBlk [.int .i64 0, .int .i64 0, .slice none 0 0] 30).tail)
          clear A3 hk hq
          have HB := hid (slots_small HS.out A4.out)
          go_wp2_with fail
          refine (slots_any HS.out A4.out).mono ?_
          rintro e w5 ⟨da, dc, ls2, rfl, hls2, A5⟩
          have R2 := hid (readsL_of A5)
          rw [hls2] at R2
          have A5 := hid (drop_front A5)
          have R1 := hid (readsL_of (drop_front A5.out))
          rw [HLS.out] at R1
          clear hls2 A4
          go_wp2_with fail
          refine (sameSlots_true R1.out R2.out HB.out (by rw [List.length_map]; have := HS.out.len; omega)).mono ?_
          rintro e w6 ⟨rfl, B6⟩
          have A6 := hid (A5.out.later B6)
          clear B6 R1 R2 A5 c0 c1 c2 c3 c4
          obtain ⟨g', o', ea, hg', F⟩ := HO.out.at (A6.out.into (by simp)) hlt
          cases ea
          rw [HOV.out] at F
          have c0 := F.c0
          have c1 := F.c1
          have c2 := F.c2
          have c3 := F.c3
          have c4 := F.c4
          simp only at c0 c1 c2 c3 c4
          clear F
          have HT2 : Hid (∀ w', All (shL P S ++ (slsL (.slice ba 8 bc) ls ++ [inC w])) w' → Tab w') := hid (fun w' h' => HT.out.below (h'.into (by simp)))
          go_wp2_with fail
          refine (Do_any HS.out (by omega) HT2.out HK.out A6.out).mono ?_
          rintro e w7 ⟨S2, c2', x2, it2, j2, sa2, sc2, rfl, hD, A7⟩
          have HS2 := hid (deed_ok HS.out (tidy_of A6.out) HK.out hD)
          have HD := hid hD
          have HX := hid (deed_res HS.out HK.out hD)
          have HJ := hid (deed_range HS.out hD)
          have HCH := hid (fun (n : Nat) (s s' : Option Qs) (hs : S[n]? = some s) (hs' : S2[n]? = some s') => deed_slots HS.out HS2.out A6.out A7 hD hs hs')
          have HIT : Hid (it2.length ≤ 9223372036854775807) := by
            have := chkX_len HX.out
            show _ ≤ _
            omega
          generalize hL2 : it2.length = L2 at A7
          have HL2 := hid hL2
          clear hL2
          have A7 := hid ((A7.addBlk [.int .i64 c2', .int .i64 x2, .slice sa2 L2 sc2] 30).perm (ds := shL P S2 ++ (blkC w7.heap.size [.int .i64 c2', .int .i64 x2, .slice sa2 L2 sc2] 30 :: ownC 9 (.slice sa2 L2 sc2) (txtV it2) :: (slsL (.slice ba 8 bc) ls ++ [inC w]))) List.perm_middle.symm)
          clear hD A6 c0 c1 c2 c3 c4 hg' HT2
          go_wp2_with fail
          refine (slots_any HS2.out A7.out).mono ?_
          rintro e w8 ⟨fa, fc, ls3, rfl, hls3, A8⟩
          have HL3 := hid hls3
          have A8 := hid A8
          clear hls3 A7
          obtain ⟨g', o', ea, hg', F⟩ := HO.out.at (A8.out.into (by simp)) hlt
          cases ea
          rw [HOV.out] at F
          have c0 := F.c0
          have c1 := F.c1
          have c2 := F.c2
          have c3 := F.c3
          have c4 := F.c4
          simp only at c0 c1 c2 c3 c4
          clear F
          have CB := check_any (HT.out.below (A8.out.into (by simp))) k nm tx n m
          rw [HK.out] at CB
          go_wp2_with fail
          refine CB.mono ?_
          rintro e w9 ⟨rfl, B9⟩
          have A9 := hid (A8.out.later B9)
          clear B9 A8 c0 c1 c2 c3 c4 hg' CB
          have AX := hid (drop_front (drop_front A9.out))
          have r0 := AX.out.r0
          have r1 := AX.out.r1
          have r2 := AX.out.r2
          have TX := hid (txts_of (e := 9) AX.out mem2)
          have CX := checkX_any c2' x2 TX.out HIT.out
          rw [HX.out] at CX
          clear AX
          go_wp2_with fail
          refine CX.mono ?_
          rintro e w10 ⟨rfl, B10⟩
          have A10 := hid (A9.out.later B10)
          clear B10 A9 r0 r1 r2 TX CX
          obtain ⟨g', o', ea, hg', F⟩ := HO.out.at (A10.out.into (by simp)) hlt
          cases ea
          rw [HOV.out] at F
          have c0 := F.c0
          have c1 := F.c1
          have c2 := F.c2
          have c3 := F.c3
          have c4 := F.c4
          simp only at c0 c1 c2 c3 c4
          clear F
          go_wp2_with fail
          refine (query_any k).mono ?_
          rw [show decide (6 ≤ k ∧ k ≤ 8) = false from HQ.out]
          rintro e w11 ⟨rfl, rfl⟩
          clear c0 c1 c2 c3 c4 hg'
          have R1 := hid (readsL_of (drop_front (drop_front A10.out)).tail.tail)
          have R3 := hid (readsL_of A10.out)
          rw [HLS.out] at R1
          rw [HL3.out] at R3
          have HL8 := hid (fun (n : Nat) (s' : Option Qs) (hs' : S2[n]? = some s') => slB_len (P := P) HS2.out (drop_front A10.out) hs')
          have j1 : decide (j2 < -1) = false := by have := HJ.out; simp; omega
          have j3 : decide (8 ≤ j2) = false := by have := HJ.out; simp; omega
          clear HX HIT HL2 HD
          go_wp2
          go_loopw [12] (fun nv wr2 => ∃ (n : Nat), nv = .int .i64 (n : Int) ∧ n ≤ 8 ∧ Hid (Below w11.heap.size w11 wr2)) (fun nv _ => 8 - (intOf nv).toNat)
          case atStart => exact ⟨0, rfl, by omega, hid (Below.refl _ _)⟩
          case round =>
            obtain ⟨n', rfl, hn8, BN⟩ := hrel
            by_cases hnl : n' < 8
            · obtain ⟨s1, hs1⟩ : ∃ s1, S[n']? = some s1 := ⟨_, List.getElem?_eq_getElem (by have := HS.out.len; omega)⟩
              obtain ⟨s2, hs2⟩ : ∃ s2, S2[n']? = some s2 := ⟨_, List.getElem?_eq_getElem (by have := HS2.out.len; omega)⟩
              have hlen2 := HL8.out n' s2 hs2
              have hiff := HCH.out n' s1 s2 hs1 hs2
              have hlen1 := HB.out (slB s1) (List.mem_of_getElem? (i := n') (by rw [List.getElem?_map, hs1]; rfl))
              obtain ⟨p1, v1, ⟨ea1, e1⟩, f1⟩ := (R1.out.below BN.out).cell (l := slB s1) (j := n') (by rw [List.getElem?_map, hs1]; rfl)
              obtain ⟨p2, v2, ⟨ea2, e2⟩, f2⟩ := (R3.out.below BN.out).cell (l := slB s2) (j := n') (by rw [List.getElem?_map, hs2]; rfl)
              subst ea1 ea2
              have ST : Hid (∀ q, Calls Tryd.prog 15 #[v1, v2] (wr.drewN q) fun e w' => e = .returned (.bool (decide (slB s1 = slB s2))) ∧ ∃ m, w' = (wr.drewN q).drewN m) := hid (fun q => same_dec (f1.kept (bdN wr q).size (fun k hk => (bdN wr q).block k (f1.block k hk))) (f2.kept (bdN wr q).size (fun k hk => (bdN wr q).block k (f2.block k hk))) hlen1)
              obtain ⟨ua1, uc1, rfl⟩ := f1.form
              obtain ⟨ua2, uc2, rfl⟩ := f2.form
              clear f1 f2 hlen1
              have hbe : decide (slB s1 = slB s2) = ((n' : Int) != j2) := by
                by_cases hh : slB s1 = slB s2
                · rw [decide_eq_true hh]
                  have := hiff.1 hh
                  simpa using this
                · rw [decide_eq_false hh]
                  have : ¬ (n' : Int) ≠ j2 := fun e => hh (hiff.2 e)
                  simp only [ne_eq, Classical.not_not] at this
                  rw [this]
                  simp
              rw [hbe] at ST
              generalize hbb : ((n' : Int) != j2) = bb at ST
              generalize (slB s1).length = L1' at *
              generalize (slB s2).length = L2' at *
              have q1 : decide ((2197 : Int) < (L2' : Int)) = false := by simp; omega
              have q2 : decide (2197 < L2') = false := by simp; omega
              have q3 : (bb != bb) = false := by simp
              have q4 : (0 : Int) ≤ (n' : Int) := by omega
              have q5 : (n' : Int) < 8 := by omega
              have q6 : decide ((n' : Int) < 8) = true := by simp; omega
              clear hiff hbe hs1 hs2 hlen2
              go_wp2_with fail
              go_quiet (first | (go_at_call 15; exact Calls.quiet_of (ST.out _)))
              go_wp2
              go_roundw
              case rel => exact ⟨n' + 1, by go_num, by omega, hid (BN.out.trans ((bdN wr nq).mono BN.out.size))⟩
              case measure => simp [intOf]; omega
            · obtain rfl : n' = 8 := by omega
              have A11 := hid (A10.out.later BN.out)
              clear BN R1 R3 A10
              go_wp2
              go_roundw
              case rel => exact ⟨i + 1, by go_num, by omega, hid ⟨S2, HS2.out, (drop_front A11.out).sublist (List.Sublist.append (.refl _) (.cons _ (.cons _ (List.sublist_append_right _ _))))⟩⟩
              case measure => simp [intOf]; omega
      · go_wp2_with fail
        refine (Ask_bad (HT.out.below (A3.out.into (by simp))) hk A3.out).mono ?_
        rintro e w4 ⟨rfl, A4⟩
        have HK := hid hk
        have A4 := hid ((A4.addBlk [.int .i64 0, .int .i64 0, .slice none 0 0] 30).tail)
        clear A3
        generalize hck : chkA k nm.size tx.size n m = ck at hk
        have HCK := hid hck
        have e1 : (ck != 0) = true := by simpa using hk
        have e2 : (ck == 0) = false := by simpa using hk
        clear hck hk
        have HB := hid (slots_small HS.out A4.out)
        go_wp2_with fail
        refine (slots_any HS.out A4.out).mono ?_
        rintro e w5 ⟨da, dc, ls2, rfl, hls2, A5⟩
        have R2 := hid (readsL_of A5)
        rw [hls2] at R2
        have A5 := hid (drop_front A5)
        have R1 := hid (readsL_of (cs := shL P S ++ [inC w]) (A5.out.perm (by
          have := List.perm_append_comm_assoc (shL P S) (slsL (.slice ba 8 bc) ls) [inC w]
          simpa using this)))
        rw [HLS.out] at R1
        clear hls2 A4
        go_wp2_with fail
        refine (sameSlots_true R1.out R2.out HB.out (by rw [List.length_map]; have := HS.out.len; omega)).mono ?_
        rintro e w6 ⟨rfl, B6⟩
        have A6 := hid (A5.out.later B6)
        have R1b := hid (R1.out.below B6)
        clear B6 R1 R2 A5 c0 c1 c2 c3 c4
        obtain ⟨g', o', ea, hg', F⟩ := HO.out.at (A6.out.into (by simp)) hlt
        cases ea
        rw [HOV.out] at F
        have c0 := F.c0
        have c1 := F.c1
        have c2 := F.c2
        have c3 := F.c3
        have c4 := F.c4
        simp only at c0 c1 c2 c3 c4
        clear F R1b
        have DB := Do_bad (P := P) (HT.out.below (A6.out.into (by simp))) HK.out A6.out
        rw [HCK.out] at DB
        go_wp2_with fail
        refine DB.mono ?_
        rintro e w7 ⟨rfl, A7⟩
        have A7 := hid ((A7.addBlk [.int .i64 0, .int .i64 0, .slice none 0 0] 30).tail)
        clear DB A6 c0 c1 c2 c3 c4 hg'
        go_wp2_with fail
        refine (slots_any HS.out A7.out).mono ?_
        rintro e w8 ⟨fa, fc, ls3, rfl, hls3, A8⟩
        have R3 := hid (readsL_of A8)
        rw [hls3] at R3
        have A8 := hid (drop_front A8)
        have R1 := hid (readsL_of (cs := shL P S ++ [inC w]) (A8.out.perm (by
          have := List.perm_append_comm_assoc (shL P S) (slsL (.slice ba 8 bc) ls) [inC w]
          simpa using this)))
        rw [HLS.out] at R1
        clear hls3 A7
        obtain ⟨g', o', ea, hg', F⟩ := HO.out.at (A8.out.into (by simp)) hlt
        cases ea
        rw [HOV.out] at F
        have c0 := F.c0
        have c1 := F.c1
        have c2 := F.c2
        have c3 := F.c3
        have c4 := F.c4
        simp only at c0 c1 c2 c3 c4
        clear F
        have CB := check_any (HT.out.below (A8.out.into (by simp))) k nm tx n m
        rw [HCK.out] at CB
        go_wp2_with fail
        refine CB.mono ?_
        rintro e w9 ⟨rfl, B9⟩
        have A9 := hid (A8.out.later B9)
        have R1 := hid (R1.out.below B9)
        have R3 := hid (R3.out.below B9)
        clear B9 A8 c0 c1 c2 c3 c4 hg' CB
        have e3 : (ck != ck) = false := by simp
        go_wp2_with fail
        refine (sameSlots_true R1.out R3.out HB.out (by rw [List.length_map]; have := HS.out.len; omega)).mono ?_
        rintro e w10 ⟨rfl, B10⟩
        have A10 := hid (A9.out.later B10)
        clear B10 A9 R1 R3 HB
        go_wp2
        refine wp_loop_rounds 1 ?_
        rw [rounds_succ]
        go_wp2
        go_roundw
        case rel => exact ⟨i + 1, by go_num, by omega, hid ⟨S, HS.out.up, A10.out.sublist (List.Sublist.append (.refl _) (List.sublist_append_right _ _))⟩⟩
        case measure => simp [intOf]; omega
    · go_wp2
      go_ret
      exact ⟨rfl, A.out.into (by simp)⟩
end Go.Proofs.YtkcepkehgkkkbabDoor

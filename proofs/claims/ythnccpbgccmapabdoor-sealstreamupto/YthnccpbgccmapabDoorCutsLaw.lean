import Derived.Test.YthnccpbgccmapabDoorCuts
import Derived.Deep.RegionWith
namespace Go.Proofs.YthnccpbgccmapabDoor
open Go.RowKit
set_option linter.unusedVariables false
attribute [local go_sem ↓] Go.wp_at_zero Go.wp_at_succ

theorem pc_start {w w2 : World} {P1 P2 : Nat} {b : List UInt8} {v1 : Sv} (hv1 : SvOk (fin b).2.2 (fin b).1 v1) (h : Str P2 [] [] 0 (strC P1 (fin b).2.2 (fin b).1 (fin b).2.1 v1 ++ [inC w]) w2) : PcR w P1 P2 b 0 (.slice (some ⟨w2.heap.size, 0, none⟩) 0 0) [] (w2.alloc (.cells #[] 26)) := by
  refine ⟨v1, hv1, by simp, ?_⟩
  have e : fin (b.take 0) = ([], 0, []) := by rw [List.take_zero]; rfl
  rw [e]
  obtain ⟨v, hv, hA⟩ := h
  refine ⟨v, hv, ?_⟩
  have h1 : All (slC (.slice (some ⟨w2.heap.size, 0, none⟩) 0 0) [] :: (strC P2 [] [] 0 v ++ (strC P1 (fin b).2.2 (fin b).1 (fin b).2.1 v1 ++ [inC w]))) (w2.alloc (.cells #[] 26)) := by
    refine hA.add (Fr.below (ba w2 _)) (slC_good _ _) ?_ (fun k hk => ?_)
    · exact ⟨by simp, empty_row.2.imp id (fun ⟨g, cap, cur, e, _, r⟩ => ⟨g, cap, cur, e, Nat.zero_le _, r⟩)⟩
    · have : k = w2.heap.size := by simpa [slC, Value.ownBlock] using hk
      subst this
      exact ⟨Nat.le_refl _, by simp⟩
  exact h1.perm List.perm_middle.symm

theorem madeP_take {ps : List (List UInt8)} {i : Nat} {p : List UInt8} (h : ps[i]? = some p) : madeP (ps.take (i + 1)) = madeP (ps.take i) + (p.length + 13) := by
  rw [take_snoc h]
  simp [madeP]
theorem madeP_le (ps : List (List UInt8)) (i : Nat) : madeP (ps.take i) ≤ madeP ps := by
  induction ps generalizing i with
  | nil => simp
  | cons p ps ih =>
    cases i with
    | zero => simp [madeP]
    | succ i =>
      have := ih i
      simp only [madeP, List.take_succ_cons, List.map_cons, List.sum_cons] at this ⊢
      omega

-- MORE
theorem cut_from {W : World} {ao : Option Addr} {n c : Nat} {l : List UInt8} (h : Reads W (.slice ao n c) l) (p : Nat) (hp : p ≤ l.length) : ∃ bv, (∀ w, (Instr.slice 26 (.slice ao n c) (some (.int .i64 (p : Int))) none none).run Tryd.prog w = .ok bv w) ∧ Reads W bv (l.drop p) := by
  obtain ⟨hc, hn⟩ := h.cap
  have hs : ∀ w, (sizeOf (Tryd.prog.elem 26)).run Tryd.prog w = .ok 1 w := fun w => by kernel_rfl
  have hrun : ∀ w, (Instr.slice 26 (.slice ao n c) (some (.int .i64 (p : Int))) none none).run Tryd.prog w = .ok (sliced ao p n c 1) w := fun w => by
    rw [run_slice_l w 26 ao n c (by kernel_rfl) .i64 (p : Int) (by omega) (by omega), hs]
    simp [Result.andThen]
  refine ⟨_, hrun, ?_⟩
  have e : l.drop p = (l.drop p).take (n - p) := by rw [List.take_of_length_le (by simp; omega)]
  rw [e]
  unfold sliced
  have hnone : ao = none → c = 0 := by
    intro h0
    subst h0
    exact h.none_nil.2.1
  split
  · rename_i hcp
    exact h.cutAt (by omega) (by omega) (fun h0 => by omega) (fun h0 => by omega)
  · exact h.cutAt (by omega) (by omega) (fun h0 g o e => by subst e; simp [Addr.add_lit]) (fun h0 => by
      cases ao with
      | none => have := hnone rfl; omega
      | some a => cases h0)

/-- 'whole' has told one; 'parts' comes in front. -/
theorem pcS_next {w wr : World} {P1 P2 i : Nat} {b p : List UInt8} {gv x : Value} {us : List Value} {v2 : Sv} {ps1 ps2 : List (List UInt8)} (hv2 : SvOk (fin b).2.2 ps2 v2) (h : Str P1 (fin b).2.2 ps1 (fin b).2.1 (rowC x p :: (strC P2 (fin b).2.2 ps2 (fin b).2.1 v2 ++ (slC gv us :: (rowsP us ((fin b).1.take us.length) ++ [inC w])))) wr) :
    ∃ v1, SvOk (fin b).2.2 ps1 v1 ∧ Str P2 (fin b).2.2 ps2 (fin b).2.1 (rowC x p :: (strC P1 (fin b).2.2 ps1 (fin b).2.1 v1 ++ (slC gv us :: (rowsP us ((fin b).1.take us.length) ++ [inC w])))) wr := by
  obtain ⟨v1, hv1, hA⟩ := h
  refine ⟨v1, hv1, v2, hv2, hA.perm ?_⟩
  generalize strC P2 _ _ _ _ = a
  generalize strC P1 _ _ _ _ = c
  generalize slC gv us :: _ = r
  have e1 : (c ++ (rowC x p :: (a ++ r))).Perm (rowC x p :: (c ++ (a ++ r))) := List.perm_middle
  have e2 : (c ++ (a ++ r)).Perm (a ++ (c ++ r)) := by
    rw [← List.append_assoc, ← List.append_assoc]
    exact List.perm_append_comm.append_right _
  have e3 : (a ++ (rowC x p :: (c ++ r))).Perm (rowC x p :: (a ++ (c ++ r))) := List.perm_middle
  exact e1.trans ((e2.cons _).trans e3.symm)

/-- Two streams, both empty of payloads. -/
def Two (P1 P2 : Nat) (X : List UInt8) (L : Nat) (cs : List Comp) (w : World) : Prop := ∃ v1 v2, SvOk X [] v1 ∧ SvOk X [] v2 ∧ All (strC P1 X [] L v1 ++ (strC P2 X [] L v2 ++ cs)) w
theorem Two.one {P1 P2 : Nat} {X : List UInt8} {L : Nat} {cs : List Comp} {w : World} (h : Two P1 P2 X L cs w) : ∃ ds, Str P1 X [] L ds w := by
  obtain ⟨v1, v2, h1, h2, h3⟩ := h
  exact ⟨_, v1, h1, h3⟩
theorem Two.two {P1 P2 : Nat} {X : List UInt8} {L : Nat} {cs : List Comp} {w : World} (h : Two P1 P2 X L cs w) : ∃ ds, Str P2 X [] L ds w := by
  obtain ⟨v1, v2, h1, h2, h3⟩ := h
  exact ⟨strC P1 X [] L v1 ++ cs, v2, h2, h3.perm (by
    rw [← List.append_assoc, ← List.append_assoc]
    exact List.perm_append_comm.append_right _)⟩
theorem Two.later {P1 P2 : Nat} {X : List UInt8} {L : Nat} {cs : List Comp} {w w' : World} (h : Two P1 P2 X L cs w) (hb : Below w.heap.size w w') : Two P1 P2 X L cs w' := by
  obtain ⟨v1, v2, h1, h2, h3⟩ := h
  exact ⟨v1, v2, h1, h2, h3.later hb⟩
theorem Two.into {P1 P2 : Nat} {X : List UInt8} {L : Nat} {cs : List Comp} {w w0 : World} (h : Two P1 P2 X L cs w) (hin : inC w0 ∈ cs) : Below w0.heap.size w0 w := by
  obtain ⟨v1, v2, h1, h2, h3⟩ := h
  exact (h3.mem (c := inC w0) (by simp [hin])).2.1

theorem pcS_both {w wr : World} {P1 P2 i : Nat} {b : List UInt8} {gv : Value} {us : List Value} {v1 : Sv} (hu : us.length ≤ (fin b).1.length) (hi : us.length ≤ i) (hv1 : SvOk (fin b).2.2 ((fin b).1.drop i) v1) (h : Str P2 (fin b).2.2 ((fin b).1.drop i) (fin b).2.1 (strC P1 (fin b).2.2 ((fin b).1.drop i) (fin b).2.1 v1 ++ (slC gv us :: (rowsP us ((fin b).1.take us.length) ++ [inC w]))) wr) : PcS w P1 P2 b gv us i wr := by
  refine ⟨v1, hv1, hu, ?_⟩
  rw [Nat.max_eq_left hi]
  refine h.rest ?_
  generalize strC P1 _ _ _ _ = c
  generalize rowsP _ _ = r
  have e2 : (c ++ (r ++ [inC w])).Perm (r ++ (c ++ [inC w])) := by
    rw [← List.append_assoc, ← List.append_assoc]
    exact List.perm_append_comm.append_right _
  exact List.perm_middle.trans (e2.cons _)

set_option maxHeartbeats 12800000 in
set_option maxRecDepth 1000000 in
theorem sealCuts_walk {w : World} {v0 v1 : Value} {b : List UInt8} {ns : List Int} (ea : Bool) (hT : Tab w) (h0 : Reads w v0 b) (h1 : IntsAt w v1 ns) (hz0 : b.length ≤ 1048576) (hz1 : ns.length ≤ 1048576) :
    Calls Tryd.prog 4 #[v0, v1, .bool ea] w fun e w' => e = .returned (.bool true) ∧ Below w.heap.size w w' := by
  obtain ⟨i0, hi, hzz0, hzz1, hzz2⟩ := info_parts Tryd.info26
  obtain ⟨a0, c0, e0⟩ := h0.form
  obtain ⟨a1, c1, e1⟩ := h1.form
  subst e0 e1
  have H0 := hid h0
  have H1 := hid h1
  have HT := hid hT
  have hcap := h0.cap.1
  clear h0 h1 hT
  go_enter Tryd.func4, Tryd.ntmps4
  go_wp2_with fail
  refine (shown_any HT.out).mono ?_
  rintro e w1 ⟨rfl, hb1⟩
  have A1 := hid ((All.came w).later hb1)
  clear hb1
  go_wp2_with fail
  refine (Str.new A1.out).mono ?_
  rintro e w2 ⟨P1, rfl, v2, hv2, hA2⟩
  have HV2 := hid hv2
  have A2 := hid hA2
  clear hv2 hA2 A1
  go_wp2_with fail
  refine (Str.new A2.out).mono ?_
  rintro e w3 ⟨P2, rfl, v3, hv3, hA3⟩
  have S3 := hid (show Str P1 [] [] 0 (strC P2 [] [] 0 v3 ++ [inC w]) w3 from ⟨v2, HV2.out, hA3.perm (by
    rw [← List.append_assoc, ← List.append_assoc]
    exact List.perm_append_comm.append_right _)⟩)
  have HV3 := hid hv3
  clear hv3 hA3 A2 HV2
  go_wp2_with fail
  refine (S3.out.feed (w0 := w) (by simp) HT.out (H0.out.under (S3.out.into (by simp))) (by simp; omega) (by simp) (by omega)).mono ?_
  rw [List.nil_append, List.nil_append, Nat.zero_add]
  rintro e w4 ⟨rfl, v4, hv4, hA4⟩
  have S4 := hid (pc_start hv4 (show Str P2 [] [] 0 (strC P1 (fin b).2.2 (fin b).1 (fin b).2.1 v4 ++ [inC w]) w4 from ⟨v3, HV3.out, hA4.perm (by
    rw [← List.append_assoc, ← List.append_assoc]
    exact List.perm_append_comm.append_right _)⟩))
  clear hv4 hA4 S3 HV3
  go_wp2
  go_loopw [9, 10, 11] (fun gv av iv wr => ∃ (at_ i : Nat) (us : List Value), av = .int .i64 (at_ : Int) ∧ iv = .int .i64 (i : Int) ∧ at_ ≤ b.length ∧ i ≤ ns.length ∧ Hid (PcR w P1 P2 b at_ gv us wr)) (fun _ _ iv _ => ns.length - (intOf iv).toNat)
  case atStart => exact ⟨0, 0, [], rfl, rfl, by omega, by omega, S4⟩
  case round =>
    obtain ⟨at_, i, us, rfl, rfl, hat, hi', RR⟩ := hrel
    obtain ⟨ga, gc, rfl⟩ := owns_form RR.out.sl
    clear S4
    by_cases hn : i < ns.length ∧ at_ < b.length
    · obtain ⟨hn1, hn2⟩ := hn
      obtain ⟨n, hnn⟩ : ∃ n, ns[i]? = some n := ⟨_, List.getElem?_eq_getElem hn1⟩
      obtain ⟨ng, no, hna, hnc⟩ := H1.out.at RR.out.into hnn
      subst hna
      obtain ⟨bg, bo, hba, _⟩ := H0.out.at_u8 0 (by omega)
      subst hba
      clear hnn
      by_cases hneg : n < 0
      · obtain ⟨MM, hMM⟩ : ∃ MM : Nat, MM = 0 := ⟨0, rfl⟩
        subst hMM
        have hcut : Reads wr (.slice (some ⟨bg, bo + at_, none⟩) 0 (c0 - at_)) ((b.drop at_).take 0) := (H0.out.under RR.out.into).cutAt (by omega) (by omega) (fun _ g o e => by cases e; rfl) (fun h => by cases h)
        have HC := hid hcut
        have hne : ¬ c0 = at_ := by omega
        clear hcut
        go_wp2_with fail
        refine (RR.out.feed HT.out HC.out hz0).mono ?_
        rintro e w5 ⟨rfl, hR5⟩
        have R5 := hid hR5
        clear hR5 HC RR hnc
        cases ea
        · go_wp2
          go_roundw
          case rel => exact ⟨at_ + 0, i + 1, us, by go_num, by go_num, by omega, by omega, R5⟩
          case measure => simp [intOf]; omega
        · rcases R5.out.next hz0 with ⟨hlt, hcall⟩ | ⟨heq, hcall⟩
          · have HCALL := hid hcall
            clear hcall hlt
            go_wp2_with fail
            refine HCALL.out.mono ?_
            rintro e w6 ⟨x, p, rfl, hN⟩
            obtain ⟨s1, s2, s3, s4⟩ := hN.sl
            have hul : us.length ≤ 1048576 := by
              have h7 := (fin_rest_le (b.take (at_ + 0))).2.2
              have h8 : (b.take (at_ + 0)).length ≤ b.length := by simp; omega
              omega
            obtain ⟨xa, xc, hxe⟩ := owns_form s2
            subst hxe
            have N6 := hid hN
            have S3 := hid s3
            clear hN s2 s3 s4 R5
            go_wp2_with (at_builtin; refine wpList_append_own_at _ rfl (.tmp 83) (.tmp 85) 29 rfl 0 26 i0 (.slice none 0 0) 1 24 Tryd.underlying29 hi hzz0 hzz1 hzz2 rfl (by decide) _ _ _ rfl (s1.alloc _) ⟨w6.heap.size, 0, none⟩ 1 1 [.slice xa p.length xc] rfl rfl (cell_one_new _ _ _) (fun u hu => by simp at hu; subst hu; rfl) (by unfold maxLen; omega) (by omega) (by omega) ?_)
            intro gv' w7 hown hgr hnil hat'
            have R7 := hid (N6.out.laid hown hgr (by simpa using hat') S3.out)
            obtain ⟨ga', gc', hge⟩ := owns_form hown
            subst hge
            clear hown hgr hnil hat' s1 N6 S3
            go_wp2
            go_roundw
            case rel => exact ⟨at_ + 0, i + 1, us ++ [.slice xa p.length xc], by go_num, by go_num, by omega, by omega, R7⟩
            case measure => simp [intOf]; omega
          · have HCALL := hid hcall
            clear hcall heq
            go_wp2_with fail
            refine HCALL.out.mono ?_
            rintro e w6 ⟨rfl, q6, hq6⟩
            have R6 := hid (show PcR w P1 P2 b (at_ + 0) (.slice ga us.length gc) us w6 from hq6 ▸ R5.out.drewN q6)
            clear hq6 R5
            go_wp2
            go_roundw
            case rel => exact ⟨at_ + 0, i + 1, us, by go_num, by go_num, by omega, by omega, R6⟩
            case measure => simp [intOf]; omega
      · by_cases hbig : (b.length : Int) - at_ < n
        · skip
          have hcut : Reads wr (.slice (some ⟨bg, bo + at_, none⟩) 0 (c0 - at_)) ((b.drop at_).take 0) := (H0.out.under RR.out.into).cutAt (by omega) (by omega) (fun _ g o e => by cases e; rfl) (fun h => by cases h)
          have HC := hid hcut
          have hne : ¬ c0 = at_ := by omega
          clear hcut
          go_wp2_with fail
          refine (RR.out.feed HT.out HC.out hz0).mono ?_
          rintro e w5 ⟨rfl, hR5⟩
          have R5 := hid hR5
          clear hR5 HC RR hnc
          cases ea
          · go_wp2
            go_roundw
            case rel => exact ⟨at_ + 0, i + 1, us, by go_num, by go_num, by omega, by omega, R5⟩
            case measure => simp [intOf]; omega
          · rcases R5.out.next hz0 with ⟨hlt, hcall⟩ | ⟨heq, hcall⟩
            · have HCALL := hid hcall
              clear hcall hlt
              go_wp2_with fail
              refine HCALL.out.mono ?_
              rintro e w6 ⟨x, p, rfl, hN⟩
              obtain ⟨s1, s2, s3, s4⟩ := hN.sl
              have hul : us.length ≤ 1048576 := by
                have h7 := (fin_rest_le (b.take (at_ + 0))).2.2
                have h8 : (b.take (at_ + 0)).length ≤ b.length := by simp; omega
                omega
              obtain ⟨xa, xc, hxe⟩ := owns_form s2
              subst hxe
              have N6 := hid hN
              have S3 := hid s3
              clear hN s2 s3 s4 R5
              go_wp2_with (at_builtin; refine wpList_append_own_at _ rfl (.tmp 83) (.tmp 85) 29 rfl 0 26 i0 (.slice none 0 0) 1 24 Tryd.underlying29 hi hzz0 hzz1 hzz2 rfl (by decide) _ _ _ rfl (s1.alloc _) ⟨w6.heap.size, 0, none⟩ 1 1 [.slice xa p.length xc] rfl rfl (cell_one_new _ _ _) (fun u hu => by simp at hu; subst hu; rfl) (by unfold maxLen; omega) (by omega) (by omega) ?_)
              intro gv' w7 hown hgr hnil hat'
              have R7 := hid (N6.out.laid hown hgr (by simpa using hat') S3.out)
              obtain ⟨ga', gc', hge⟩ := owns_form hown
              subst hge
              clear hown hgr hnil hat' s1 N6 S3
              go_wp2
              go_roundw
              case rel => exact ⟨at_ + 0, i + 1, us ++ [.slice xa p.length xc], by go_num, by go_num, by omega, by omega, R7⟩
              case measure => simp [intOf]; omega
            · have HCALL := hid hcall
              clear hcall heq
              go_wp2_with fail
              refine HCALL.out.mono ?_
              rintro e w6 ⟨rfl, q6, hq6⟩
              have R6 := hid (show PcR w P1 P2 b (at_ + 0) (.slice ga us.length gc) us w6 from hq6 ▸ R5.out.drewN q6)
              clear hq6 R5
              go_wp2
              go_roundw
              case rel => exact ⟨at_ + 0, i + 1, us, by go_num, by go_num, by omega, by omega, R6⟩
              case measure => simp [intOf]; omega
        · obtain ⟨m, rfl⟩ : ∃ m : Nat, n = (m : Int) := ⟨n.toNat, by omega⟩
          have hcut : Reads wr (.slice (some ⟨bg, bo + at_, none⟩) m (c0 - at_)) ((b.drop at_).take m) := (H0.out.under RR.out.into).cutAt (by omega) (by omega) (fun _ g o e => by cases e; rfl) (fun h => by cases h)
          have HC := hid hcut
          have hne : ¬ c0 = at_ := by omega
          clear hcut
          go_wp2_with fail
          refine (RR.out.feed HT.out HC.out hz0).mono ?_
          rintro e w5 ⟨rfl, hR5⟩
          have R5 := hid hR5
          clear hR5 HC RR hnc
          cases ea
          · go_wp2
            go_roundw
            case rel => exact ⟨at_ + m, i + 1, us, by go_num, by go_num, by omega, by omega, R5⟩
            case measure => simp [intOf]; omega
          · rcases R5.out.next hz0 with ⟨hlt, hcall⟩ | ⟨heq, hcall⟩
            · have HCALL := hid hcall
              clear hcall hlt
              go_wp2_with fail
              refine HCALL.out.mono ?_
              rintro e w6 ⟨x, p, rfl, hN⟩
              obtain ⟨s1, s2, s3, s4⟩ := hN.sl
              have hul : us.length ≤ 1048576 := by
                have h7 := (fin_rest_le (b.take (at_ + m))).2.2
                have h8 : (b.take (at_ + m)).length ≤ b.length := by simp; omega
                omega
              obtain ⟨xa, xc, hxe⟩ := owns_form s2
              subst hxe
              have N6 := hid hN
              have S3 := hid s3
              clear hN s2 s3 s4 R5
              go_wp2_with (at_builtin; refine wpList_append_own_at _ rfl (.tmp 83) (.tmp 85) 29 rfl 0 26 i0 (.slice none 0 0) 1 24 Tryd.underlying29 hi hzz0 hzz1 hzz2 rfl (by decide) _ _ _ rfl (s1.alloc _) ⟨w6.heap.size, 0, none⟩ 1 1 [.slice xa p.length xc] rfl rfl (cell_one_new _ _ _) (fun u hu => by simp at hu; subst hu; rfl) (by unfold maxLen; omega) (by omega) (by omega) ?_)
              intro gv' w7 hown hgr hnil hat'
              have R7 := hid (N6.out.laid hown hgr (by simpa using hat') S3.out)
              obtain ⟨ga', gc', hge⟩ := owns_form hown
              subst hge
              clear hown hgr hnil hat' s1 N6 S3
              go_wp2
              go_roundw
              case rel => exact ⟨at_ + m, i + 1, us ++ [.slice xa p.length xc], by go_num, by go_num, by omega, by omega, R7⟩
              case measure => simp [intOf]; omega
            · have HCALL := hid hcall
              clear hcall heq
              go_wp2_with fail
              refine HCALL.out.mono ?_
              rintro e w6 ⟨rfl, q6, hq6⟩
              have R6 := hid (show PcR w P1 P2 b (at_ + m) (.slice ga us.length gc) us w6 from hq6 ▸ R5.out.drewN q6)
              clear hq6 R5
              go_wp2
              go_roundw
              case rel => exact ⟨at_ + m, i + 1, us, by go_num, by go_num, by omega, by omega, R6⟩
              case measure => simp [intOf]; omega
    · by_cases hin : i < ns.length
      · have hfull : ¬ at_ < b.length := fun h => hn ⟨hin, h⟩
        clear hn
        obtain ⟨bv, hrun, hbv⟩ := cut_from H0.out at_ hat
        have HB := hid (show Reads wr bv ((b.drop at_).take (b.length - at_)) from by rw [List.take_of_length_le (by simp)]; exact hbv.under RR.out.into)
        clear hbv
        go_wp2_with fail
        refine (RR.out.feed HT.out HB.out hz0).mono ?_
        rintro e w5 ⟨rfl, hR5⟩
        have S5 := hid (hR5.toS (by omega))
        clear hR5 HB RR hrun
        go_wp2
        go_loopw [15, 16] (fun mv iv wr => ∃ k : Nat, mv = .int .i64 (madeP ((fin b).1.take k) : Int) ∧ iv = .int .i64 (k : Int) ∧ k ≤ (fin b).1.length ∧ Hid (PcS w P1 P2 b (.slice ga us.length gc) us k wr)) (fun _ iv _ => (fin b).1.length + 1 - (intOf iv).toNat)
        case atStart => exact ⟨0, by simp [madeP], rfl, by omega, S5⟩
        case round =>
          obtain ⟨k, rfl, rfl, hk, RS⟩ := hrel
          clear S5
          have hfl := fin_rest_le b
          have hfm := fin_length b
          have hml := madeP_le (fin b).1 k
          have hul := RS.out.sl.2.1
          obtain ⟨v2, hv2, hs⟩ := RS.out.turned
          by_cases hlt : k < (fin b).1.length
          · obtain ⟨p, hp⟩ : ∃ p, (fin b).1[k]? = some p := ⟨_, List.getElem?_eq_getElem hlt⟩
            have hmk := madeP_take hp
            have hmk2 := madeP_le (fin b).1 (k + 1)
            have hpl : p.length + 13 ≤ b.length := by omega
            have HP := hid hp
            have HM := hid hmk
            have hmb : madeP ((fin b).1.take k) + (p.length + 13) ≤ b.length := by omega
            rw [drop_cons hp] at hs
            have HS := hid hs
            have HV2 := hid hv2
            clear hs hv2 hp hmk hmk2 hml hfm
            go_wp2_with fail
            refine (HS.out.next (by simp; omega)).mono ?_
            rintro e w6 ⟨x, rfl, hs6⟩
            have hx6 : w6.ownsRow 0 5 1 x p.length (cellsB p) := hs6.mem (c := rowC x p) (by simp)
            obtain ⟨xa, xc, hxe⟩ := owns_form hx6
            subst hxe
            have S6 := hid hs6
            have RX := hid (Reads.of_owns hx6)
            clear hs6 hx6 HS
            by_cases hg : k < us.length
            · obtain ⟨u, hu⟩ : ∃ u, us[k]? = some u := ⟨_, List.getElem?_eq_getElem hg⟩
              obtain ⟨gw, hgw, hcw⟩ := owns_cell26 (S6.out.mem (c := slC (.slice ga us.length gc) us) (by simp)) hu
              subst hgw
              have hru : Reads w6 u p := Reads.of_owns (S6.out.mem (c := rowC u p) (by
                refine List.mem_cons_of_mem _ (List.mem_append_right _ (List.mem_cons_of_mem _ (List.mem_append_left _ (rowsP_mem hu ?_))))
                rw [List.getElem?_take, if_pos hg]
                exact HP.out))
              obtain ⟨ua, uc, hue⟩ := hru.form
              subst hue
              have RU := hid (hru.below (ba w6 (.cells #[] 5)))
              have RX2 := hid (RX.out.below (ba w6 (.cells #[] 5)))
              have hcw2 : (w6.alloc (.cells #[] 5)).cell? ⟨gw, k, none⟩ = some (.slice ua p.length uc) := by
                have hlt6 := World.block_lt_of_cell? w6 _ hcw
                rw [World.cell?_alloc_past _ _ _ hlt6]
                exact hcw
              clear hru hu hcw RX
              go_wp2_with fail
              refine (same_q RX2.out RU.out (by omega)).mono ?_
              rintro e w7 ⟨rfl, q7, hq7⟩
              have S7 := hid (show PcS w P1 P2 b (.slice (some ⟨gw, 0, none⟩) us.length gc) us (k + 1) w7 from hq7 ▸ pcS_of (k := max k us.length) hul (by omega) HV2.out ((S6.out.later (ba w6 (.cells #[] 5))).drop.drewN q7))
              clear hq7 S6 RU RX2 hcw2 HV2
              go_wp2
              go_roundw
              case rel => exact ⟨k + 1, by rw [HM.out]; go_num, by go_num, by omega, S7⟩
              case measure => simp [intOf]; omega
            · have hmx : max k us.length = k := by omega
              rw [hmx] at HV2 S6
              have HV3 := hid (show SvOk (fin b).2.2 (p :: (fin b).1.drop (k + 1)) v2 from drop_cons HP.out ▸ HV2.out)
              have S6 := hid (drop_cons HP.out ▸ S6.out)
              obtain ⟨v1', hv1', hs7⟩ := pcS_next (i := k) HV3.out S6.out
              have S7 := hid (hs7.later (ba w6 (.cells #[] 5)))
              have HV1 := hid hv1'
              clear hv1' hs7 S6 HV2 HV3 RX hmx
              go_wp2_with fail
              refine (S7.out.next (by simp; omega)).mono ?_
              rintro e w8 ⟨y, rfl, hs8⟩
              have hy8 : w8.ownsRow 0 5 1 y p.length (cellsB p) := hs8.mem (c := rowC y p) (by simp)
              have hx8 : w8.ownsRow 0 5 1 (.slice xa p.length xc) p.length (cellsB p) := hs8.mem (c := rowC (.slice xa p.length xc) p) (by simp)
              obtain ⟨ya, yc, hye⟩ := owns_form hy8
              subst hye
              have RX8 := hid (Reads.of_owns hx8)
              have RY8 := hid (Reads.of_owns hy8)
              have S8 := hid hs8
              clear hy8 hx8 hs8 S7
              go_wp2_with fail
              refine (same_q RX8.out RY8.out (by omega)).mono ?_
              rintro e w9 ⟨rfl, q9, hq9⟩
              have S9 := hid (show PcS w P1 P2 b (.slice ga us.length gc) us (k + 1) w9 from hq9 ▸ pcS_both hul (by omega) HV1.out (S8.out.drop.drop.drewN q9))
              clear hq9 S8 RX8 RY8 HV1
              go_wp2
              go_roundw
              case rel => exact ⟨k + 1, by rw [HM.out]; go_num, by go_num, by omega, S9⟩
              case measure => simp [intOf]; omega
          · have hke : k = (fin b).1.length := by omega
            have hmx : max k us.length = k := by omega
            rw [hmx] at hv2 hs
            rw [List.drop_eq_nil_of_le (by omega)] at hv2 hs
            rw [List.take_of_length_le (by omega)]
            have HS := hid hs
            have HV2 := hid hv2
            have hgk : ¬ k < us.length := by omega
            have hfb : (((fin b).2.1 : Int) + ((fin b).2.2.length : Int) + (madeP (fin b).1 : Int) == (b.length : Int)) = true := by simp; omega
            have hb1 : (fin b).2.1 ≤ 1048576 := by omega
            have hb2 : (fin b).2.2.length ≤ 1048576 := by omega
            have hb3 : madeP (fin b).1 ≤ 1048576 := by omega
            have hbb : b.length ≤ 1048576 := hz0
            clear hs hv2 hml hfm hfl hke hmx
            generalize hLL : (fin b).2.1 = LL at *
            generalize hRR : (fin b).2.2 = R0 at *
            generalize hPP : (fin b).1 = PP at *
            have T0 : Hid (Two P1 P2 R0 LL (slC (.slice ga us.length gc) us :: (rowsP us (PP.take us.length) ++ [inC w])) wr) := by
              obtain ⟨v1, hv1, hA⟩ := HS.out
              exact ⟨v1, v2, hv1, HV2.out, hA⟩
            clear HS HV2
            go_wp2_with fail
            refine T0.out.one.choose_spec.empty.mono ?_
            rintro e w6 ⟨rfl, q6, hq6⟩
            have T6 := hid (show Two P1 P2 R0 LL (slC (.slice ga us.length gc) us :: (rowsP us (PP.take us.length) ++ [inC w])) (w6.alloc (.cells #[] 5)) from (hq6 ▸ T0.out.later (bdN _ q6) : Two P1 P2 R0 LL _ w6).later (ba w6 _))
            clear hq6 T0
            go_wp2_with fail
            refine T6.out.two.choose_spec.empty.mono ?_
            rintro e w7 ⟨rfl, q7, hq7⟩
            have T7 := hid (show Two P1 P2 R0 LL (slC (.slice ga us.length gc) us :: (rowsP us (PP.take us.length) ++ [inC w])) w7 from hq7 ▸ T6.out.later (bdN _ q7))
            clear hq7 T6
            go_wp2_with fail
            refine (same_q (Reads.nil w7) (Reads.nil w7) (by simp)).mono ?_
            rintro e w8 ⟨rfl, q8, hq8⟩
            have T8 := hid (show Two P1 P2 R0 LL (slC (.slice ga us.length gc) us :: (rowsP us (PP.take us.length) ++ [inC w])) w8 from hq8 ▸ T7.out.later (bdN _ q8))
            clear hq8 T7
            go_wp2_with fail
            refine T8.out.one.choose_spec.lost.mono ?_
            rintro e w9 ⟨rfl, q9, hq9⟩
            have T9 := hid (show Two P1 P2 R0 LL (slC (.slice ga us.length gc) us :: (rowsP us (PP.take us.length) ++ [inC w])) w9 from hq9 ▸ T8.out.later (bdN _ q9))
            clear hq9 T8
            go_wp2_with fail
            refine T9.out.one.choose_spec.held.mono ?_
            rintro e w10 ⟨rfl, q10, hq10⟩
            have T10 := hid (show Two P1 P2 R0 LL (slC (.slice ga us.length gc) us :: (rowsP us (PP.take us.length) ++ [inC w])) w10 from hq10 ▸ T9.out.later (bdN _ q10))
            clear hq10 T9
            go_wp2_with fail
            refine T10.out.two.choose_spec.lost.mono ?_
            rintro e w11 ⟨rfl, q11, hq11⟩
            have T11 := hid (show Two P1 P2 R0 LL (slC (.slice ga us.length gc) us :: (rowsP us (PP.take us.length) ++ [inC w])) w11 from hq11 ▸ T10.out.later (bdN _ q11))
            clear hq11 T10
            go_wp2_with fail
            refine T11.out.two.choose_spec.held.mono ?_
            rintro e w12 ⟨rfl, q12, hq12⟩
            have B12 := hid (show Below w.heap.size w w12 from hq12 ▸ (T11.out.later (bdN _ q12)).into (by simp))
            clear hq12 T11
            generalize R0.length = RL at *
            generalize madeP PP = MP at *
            go_wp2
            go_ret
            exact ⟨rfl, B12.out⟩
      · clear hn
        obtain ⟨bv, hrun, hbv⟩ := cut_from H0.out at_ hat
        have HB := hid (show Reads wr bv ((b.drop at_).take (b.length - at_)) from by rw [List.take_of_length_le (by simp)]; exact hbv.under RR.out.into)
        clear hbv
        go_wp2_with fail
        refine (RR.out.feed HT.out HB.out hz0).mono ?_
        rintro e w5 ⟨rfl, hR5⟩
        have S5 := hid (hR5.toS (by omega))
        clear hR5 HB RR hrun
        go_wp2
        go_loopw [15, 16] (fun mv iv wr => ∃ k : Nat, mv = .int .i64 (madeP ((fin b).1.take k) : Int) ∧ iv = .int .i64 (k : Int) ∧ k ≤ (fin b).1.length ∧ Hid (PcS w P1 P2 b (.slice ga us.length gc) us k wr)) (fun _ iv _ => (fin b).1.length + 1 - (intOf iv).toNat)
        case atStart => exact ⟨0, by simp [madeP], rfl, by omega, S5⟩
        case round =>
          obtain ⟨k, rfl, rfl, hk, RS⟩ := hrel
          clear S5
          have hfl := fin_rest_le b
          have hfm := fin_length b
          have hml := madeP_le (fin b).1 k
          have hul := RS.out.sl.2.1
          obtain ⟨v2, hv2, hs⟩ := RS.out.turned
          by_cases hlt : k < (fin b).1.length
          · obtain ⟨p, hp⟩ : ∃ p, (fin b).1[k]? = some p := ⟨_, List.getElem?_eq_getElem hlt⟩
            have hmk := madeP_take hp
            have hmk2 := madeP_le (fin b).1 (k + 1)
            have hpl : p.length + 13 ≤ b.length := by omega
            have HP := hid hp
            have HM := hid hmk
            have hmb : madeP ((fin b).1.take k) + (p.length + 13) ≤ b.length := by omega
            rw [drop_cons hp] at hs
            have HS := hid hs
            have HV2 := hid hv2
            clear hs hv2 hp hmk hmk2 hml hfm
            go_wp2_with fail
            refine (HS.out.next (by simp; omega)).mono ?_
            rintro e w6 ⟨x, rfl, hs6⟩
            have hx6 : w6.ownsRow 0 5 1 x p.length (cellsB p) := hs6.mem (c := rowC x p) (by simp)
            obtain ⟨xa, xc, hxe⟩ := owns_form hx6
            subst hxe
            have S6 := hid hs6
            have RX := hid (Reads.of_owns hx6)
            clear hs6 hx6 HS
            by_cases hg : k < us.length
            · obtain ⟨u, hu⟩ : ∃ u, us[k]? = some u := ⟨_, List.getElem?_eq_getElem hg⟩
              obtain ⟨gw, hgw, hcw⟩ := owns_cell26 (S6.out.mem (c := slC (.slice ga us.length gc) us) (by simp)) hu
              subst hgw
              have hru : Reads w6 u p := Reads.of_owns (S6.out.mem (c := rowC u p) (by
                refine List.mem_cons_of_mem _ (List.mem_append_right _ (List.mem_cons_of_mem _ (List.mem_append_left _ (rowsP_mem hu ?_))))
                rw [List.getElem?_take, if_pos hg]
                exact HP.out))
              obtain ⟨ua, uc, hue⟩ := hru.form
              subst hue
              have RU := hid (hru.below (ba w6 (.cells #[] 5)))
              have RX2 := hid (RX.out.below (ba w6 (.cells #[] 5)))
              have hcw2 : (w6.alloc (.cells #[] 5)).cell? ⟨gw, k, none⟩ = some (.slice ua p.length uc) := by
                have hlt6 := World.block_lt_of_cell? w6 _ hcw
                rw [World.cell?_alloc_past _ _ _ hlt6]
                exact hcw
              clear hru hu hcw RX
              go_wp2_with fail
              refine (same_q RX2.out RU.out (by omega)).mono ?_
              rintro e w7 ⟨rfl, q7, hq7⟩
              have S7 := hid (show PcS w P1 P2 b (.slice (some ⟨gw, 0, none⟩) us.length gc) us (k + 1) w7 from hq7 ▸ pcS_of (k := max k us.length) hul (by omega) HV2.out ((S6.out.later (ba w6 (.cells #[] 5))).drop.drewN q7))
              clear hq7 S6 RU RX2 hcw2 HV2
              go_wp2
              go_roundw
              case rel => exact ⟨k + 1, by rw [HM.out]; go_num, by go_num, by omega, S7⟩
              case measure => simp [intOf]; omega
            · have hmx : max k us.length = k := by omega
              rw [hmx] at HV2 S6
              have HV3 := hid (show SvOk (fin b).2.2 (p :: (fin b).1.drop (k + 1)) v2 from drop_cons HP.out ▸ HV2.out)
              have S6 := hid (drop_cons HP.out ▸ S6.out)
              obtain ⟨v1', hv1', hs7⟩ := pcS_next (i := k) HV3.out S6.out
              have S7 := hid (hs7.later (ba w6 (.cells #[] 5)))
              have HV1 := hid hv1'
              clear hv1' hs7 S6 HV2 HV3 RX hmx
              go_wp2_with fail
              refine (S7.out.next (by simp; omega)).mono ?_
              rintro e w8 ⟨y, rfl, hs8⟩
              have hy8 : w8.ownsRow 0 5 1 y p.length (cellsB p) := hs8.mem (c := rowC y p) (by simp)
              have hx8 : w8.ownsRow 0 5 1 (.slice xa p.length xc) p.length (cellsB p) := hs8.mem (c := rowC (.slice xa p.length xc) p) (by simp)
              obtain ⟨ya, yc, hye⟩ := owns_form hy8
              subst hye
              have RX8 := hid (Reads.of_owns hx8)
              have RY8 := hid (Reads.of_owns hy8)
              have S8 := hid hs8
              clear hy8 hx8 hs8 S7
              go_wp2_with fail
              refine (same_q RX8.out RY8.out (by omega)).mono ?_
              rintro e w9 ⟨rfl, q9, hq9⟩
              have S9 := hid (show PcS w P1 P2 b (.slice ga us.length gc) us (k + 1) w9 from hq9 ▸ pcS_both hul (by omega) HV1.out (S8.out.drop.drop.drewN q9))
              clear hq9 S8 RX8 RY8 HV1
              go_wp2
              go_roundw
              case rel => exact ⟨k + 1, by rw [HM.out]; go_num, by go_num, by omega, S9⟩
              case measure => simp [intOf]; omega
          · have hke : k = (fin b).1.length := by omega
            have hmx : max k us.length = k := by omega
            rw [hmx] at hv2 hs
            rw [List.drop_eq_nil_of_le (by omega)] at hv2 hs
            rw [List.take_of_length_le (by omega)]
            have HS := hid hs
            have HV2 := hid hv2
            have hgk : ¬ k < us.length := by omega
            have hfb : (((fin b).2.1 : Int) + ((fin b).2.2.length : Int) + (madeP (fin b).1 : Int) == (b.length : Int)) = true := by simp; omega
            have hb1 : (fin b).2.1 ≤ 1048576 := by omega
            have hb2 : (fin b).2.2.length ≤ 1048576 := by omega
            have hb3 : madeP (fin b).1 ≤ 1048576 := by omega
            have hbb : b.length ≤ 1048576 := hz0
            clear hs hv2 hml hfm hfl hke hmx
            generalize hLL : (fin b).2.1 = LL at *
            generalize hRR : (fin b).2.2 = R0 at *
            generalize hPP : (fin b).1 = PP at *
            have T0 : Hid (Two P1 P2 R0 LL (slC (.slice ga us.length gc) us :: (rowsP us (PP.take us.length) ++ [inC w])) wr) := by
              obtain ⟨v1, hv1, hA⟩ := HS.out
              exact ⟨v1, v2, hv1, HV2.out, hA⟩
            clear HS HV2
            go_wp2_with fail
            refine T0.out.one.choose_spec.empty.mono ?_
            rintro e w6 ⟨rfl, q6, hq6⟩
            have T6 := hid (show Two P1 P2 R0 LL (slC (.slice ga us.length gc) us :: (rowsP us (PP.take us.length) ++ [inC w])) (w6.alloc (.cells #[] 5)) from (hq6 ▸ T0.out.later (bdN _ q6) : Two P1 P2 R0 LL _ w6).later (ba w6 _))
            clear hq6 T0
            go_wp2_with fail
            refine T6.out.two.choose_spec.empty.mono ?_
            rintro e w7 ⟨rfl, q7, hq7⟩
            have T7 := hid (show Two P1 P2 R0 LL (slC (.slice ga us.length gc) us :: (rowsP us (PP.take us.length) ++ [inC w])) w7 from hq7 ▸ T6.out.later (bdN _ q7))
            clear hq7 T6
            go_wp2_with fail
            refine (same_q (Reads.nil w7) (Reads.nil w7) (by simp)).mono ?_
            rintro e w8 ⟨rfl, q8, hq8⟩
            have T8 := hid (show Two P1 P2 R0 LL (slC (.slice ga us.length gc) us :: (rowsP us (PP.take us.length) ++ [inC w])) w8 from hq8 ▸ T7.out.later (bdN _ q8))
            clear hq8 T7
            go_wp2_with fail
            refine T8.out.one.choose_spec.lost.mono ?_
            rintro e w9 ⟨rfl, q9, hq9⟩
            have T9 := hid (show Two P1 P2 R0 LL (slC (.slice ga us.length gc) us :: (rowsP us (PP.take us.length) ++ [inC w])) w9 from hq9 ▸ T8.out.later (bdN _ q9))
            clear hq9 T8
            go_wp2_with fail
            refine T9.out.one.choose_spec.held.mono ?_
            rintro e w10 ⟨rfl, q10, hq10⟩
            have T10 := hid (show Two P1 P2 R0 LL (slC (.slice ga us.length gc) us :: (rowsP us (PP.take us.length) ++ [inC w])) w10 from hq10 ▸ T9.out.later (bdN _ q10))
            clear hq10 T9
            go_wp2_with fail
            refine T10.out.two.choose_spec.lost.mono ?_
            rintro e w11 ⟨rfl, q11, hq11⟩
            have T11 := hid (show Two P1 P2 R0 LL (slC (.slice ga us.length gc) us :: (rowsP us (PP.take us.length) ++ [inC w])) w11 from hq11 ▸ T10.out.later (bdN _ q11))
            clear hq11 T10
            go_wp2_with fail
            refine T11.out.two.choose_spec.held.mono ?_
            rintro e w12 ⟨rfl, q12, hq12⟩
            have B12 := hid (show Below w.heap.size w w12 from hq12 ▸ (T11.out.later (bdN _ q12)).into (by simp))
            clear hq12 T11
            generalize R0.length = RL at *
            generalize madeP PP = MP at *
            go_wp2
            go_ret
            exact ⟨rfl, B12.out⟩
end Go.Proofs.YthnccpbgccmapabDoor

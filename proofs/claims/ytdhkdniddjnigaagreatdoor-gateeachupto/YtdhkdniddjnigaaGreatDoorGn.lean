import Derived.Test.YtdhkdniddjnigaaGreatDoorGl
namespace Go.Proofs.YtdhkdniddjnigaaGreatDoor
open Go.RowKit
set_option linter.unusedVariables false

theorem goL_ms {m : Int} {s : Gs} : ∀ r : List Wi, (goL m s r).ms.length ≤ 1
  | [] => by simp [goL]
  | q :: r => by
    by_cases he : bgE s.x q = 0
    · rw [goL_yes he]; simp
    · rw [goL_no he]; exact goL_ms r
theorem hearM_ms (m : Int) (s : Gs) : (hearM m s).ms.length ≤ 1 := by
  unfold hearM
  split
  · simp
  · simp
  · split
    · simp
    · unfold goM; split
      · exact goL_ms _
      · simp
theorem hearM_fields (m : Int) (s : Gs) : (hearM m s).s.no = s.no ∧ (hearM m s).s.tx = s.tx ∧ (hearM m s).s.long = s.long := by
  have key : ∀ (s : Gs) (r : List Wi), (goL m s r).s.no = s.no ∧ (goL m s r).s.tx = s.tx ∧ (goL m s r).s.long = s.long := by
    intro s r
    induction r with
    | nil => exact ⟨rfl, rfl, rfl⟩
    | cons q r ih =>
      by_cases he : bgE s.x q = 0
      · rw [goL_yes he]; exact ⟨rfl, rfl, rfl⟩
      · rw [goL_no he]; exact ih
  unfold hearM
  split
  · exact ⟨rfl, rfl, rfl⟩
  · exact ⟨rfl, rfl, rfl⟩
  · split
    · exact ⟨rfl, rfl, rfl⟩
    · unfold goM; split
      · exact key _ _
      · exact ⟨rfl, rfl, rfl⟩
/-- Messages laid behind messages. -/
theorem appMs {W : World} {sv : Value} {l1 l2 : List Ms} {ao2 : Option Addr} {n2 c2 : Nat} {cs : List Comp} (A : All (msC sv l1 :: msC (.slice ao2 n2 c2) l2 :: cs) W) (hb : (l1.length + l2.length) * 264 ≤ 140737488355328) :
    ∃ ao cap w', (Builtin.append_ #[59, 59] 59 #[sv, .slice ao2 n2 c2]).run Tryz.prog W = .ok (.slice ao (l1.length + l2.length) cap) w' ∧ All (msC (.slice ao (l1.length + l2.length) cap) (l1 ++ l2) :: msC (.slice ao2 n2 c2) l2 :: cs) w' := by
  obtain ⟨i1, hi1, hz0, hz1, hz2⟩ := info_parts Tryz.inf41
  have h2 : W.ownsRow 0 51 23 (.slice ao2 n2 c2) l2.length (l2.flatMap Ms.cells) := A.tail.1.2.1
  obtain ⟨rfl, _, _⟩ := row_cap h2
  obtain ⟨ao, cap, w', hr, A2⟩ := appN (c := c2) und49 hi1 hz0 hz1 hz2 rfl (by decide) A ao2 (news := l2.flatMap Ms.cells) (m := l2.length) (flat_len Ms.len l2)
    (fun h0 => by
      have hlen : 0 < (l2.flatMap Ms.cells).length := by rw [flat_len Ms.len]; omega
      obtain ⟨g, rfl, _, _⟩ := row_at h2 (k := 0) (List.getElem?_eq_getElem hlen)
      refine ⟨_, rfl, fun j u hu => ?_⟩
      obtain ⟨g', e, _, hc⟩ := row_at h2 hu
      simp only [Option.some.injEq, Addr.mk.injEq, and_true] at e
      subst e
      rw [Addr.add_lit, Nat.zero_add]
      exact hc) (flat_one (fun x => x.one) l2) (by unfold maxLen; omega) hb
  refine ⟨ao, cap, w', hr, ?_⟩
  have e1 : (l1 ++ l2).flatMap Ms.cells = l1.flatMap Ms.cells ++ l2.flatMap Ms.cells := List.flatMap_append
  have e2 : (l1 ++ l2).length = l1.length + l2.length := List.length_append
  unfold msC at A2 ⊢
  rw [e1, e2]
  exact A2
/-- The next line. -/
theorem Gt.next {G P : Nat} {s : Gs} {tl : List UInt8} {b m : Int} {cs : List Comp} {w : World} {txv wsv tov : Value} (A : All (gtL G P s tl b m txv wsv tov ++ cs) w) : Gt G P (nxtM s) tl b m cs (((w.setCell ⟨G, 0, none⟩ (.int .i64 (s.no + 1))).setCell ⟨G, 1, none⟩ (.slice none 0 0)).setCell ⟨G, 2, none⟩ (.bool false)) := by
  have A2 := (((A.setBlk 0 (.int .i64 (s.no + 1))).setBlk 1 (.slice none 0 0)).setBlk 2 (.bool false)).swap.tail
  exact ⟨.slice none 0 0, wsv, tov, (All.addNil (e := 5) A2).swap⟩
set_option maxHeartbeats 6400000 in
set_option maxRecDepth 1000000 in
/-- Bytes are fed. -/
theorem feed_gt {G P : Nat} {s : Gs} {tl : List UInt8} {b m : Int} {cs : List Comp} {w : World} {v : Value} {l : List UInt8} {K : Int} (h : Gt G P s tl b m cs w) (E : Evs cs) (I : GsI s m K) (hR : ∀ W, All cs W → Reads W v l) (hl : l.length ≤ 1000000000) (hK : K ≤ 2305843009213693952) (ht : tl.length ≤ 10000000000000) :
    Calls Tryz.prog 14 #[.pointer (some ⟨G, 0, none⟩), v] w fun e w' => ∃ v', e = .returned v' ∧ Gt G P (feedM m s l).s (tl ++ (feedM m s l).tl) b m (msC v' (feedM m s l).ms :: cs) w' := by
  obtain ⟨R, hRR⟩ : ∃ R, Hid (R = feedM m s l) := ⟨_, hid rfl⟩
  rw [← hRR.out]
  have G0 := hid h.noMs
  have HE := hid E
  have HI := hid I
  have HR := hid hR
  have HL := hid hl
  have HK := hid hK
  have HT := hid ht
  obtain ⟨ao, c, rfl⟩ := (hR w h.rest).form
  clear h E I hR hl hK ht
  go_enter Tryz.func14, Tryz.ntmps14
  go_wp2
  go_loopw [1, 5] (fun u1 u5 wr => ∃ (r : List UInt8) (s' : Gs) (dn : List UInt8) (ml : List Ms) (k : Nat) (ar : Option Addr) (cr : Nat) (am : Option Addr) (cm : Nat), u1 = .slice ar r.length cr ∧ u5 = .slice am ml.length cm ∧ Hid (∀ W, All cs W → Reads W (.slice ar r.length cr) r) ∧ Hid (R = ⟨(feedM m s' r).s, ml ++ (feedM m s' r).ms, dn ++ (feedM m s' r).tl⟩) ∧ Hid (GsI s' m (K + k) ∧ k + r.length ≤ l.length ∧ ml.length ≤ k ∧ dn.length ≤ k * 4800) ∧ Hid (Gt G P s' (tl ++ dn) b m (msC (.slice am ml.length cm) ml :: cs) wr)) (fun u1 u5 wr => match u1 with | .slice _ n _ => n | _ => 0)
  case atStart => exact ⟨l, s, [], [], 0, ao, c, none, 0, rfl, rfl, HR, hid (by rw [hRR.out]; rfl), hid ⟨HI.out.mono (by omega), by omega, Nat.zero_le _, Nat.zero_le _⟩, hid (by rw [List.append_nil]; exact G0.out)⟩
  case round =>
    clear G0 HR hRR
    obtain ⟨r, s', dn, ml, k, ar, cr, am, cm, rfl, rfl, HRd, HX, HB, HG⟩ := hrel
    obtain ⟨mx, hmx⟩ := HE.out.M _ (HG.out.rest.tail.alloc (.cells #[.int .u8 10] 5))
    have CC := hid (cut_any (c2 := 1) (b := wr.heap.size) (HRd.out _ (HG.out.rest.tail.alloc (.cells #[.int .u8 10] 5))) (by have := HB.out.2.1; have := HL.out; omega) (by rw [cell_at (heap_alloc_new wr _)]; rfl) hmx)
    have G2 := hid (HG.out.later (ba wr (.cells #[.int .u8 10] 5)))
    clear hmx HG
    go_wp2_with fail
    generalize wr.alloc (.cells #[.int .u8 10] 5) = w1 at *
    refine CC.out.mono ?_
    rintro e w2 ⟨p, r', rfl, hpr, q, rfl⟩
    have G2 := hid (G2.out.later (bdN w1 q))
    generalize w1.drewN q = w2 at *
    clear CC
    have HPR := hid hpr
    obtain ⟨ap, cp, rfl⟩ := (hpr w2 (HRd.out _ G2.out.rest.tail)).1.form
    obtain ⟨ar', cr', rfl⟩ := (hpr w2 (HRd.out _ G2.out.rest.tail)).2.form
    clear hpr
    have hcp : (cutP r).length ≤ r.length := by
      unfold cutP
      split
      · rw [List.length_take]; omega
      · omega
    have AC := hid (add_gt G2.out HB.out.1.ok (HPR.out w2 (HRd.out _ G2.out.rest.tail)).1 (by have := HB.out.2.1; have := HL.out; omega))
    cases hc : cutN r with
    | none =>
      have e1 : cutP r = r := by unfold cutP; rw [hc]
      have e2 : cutF r = false := by unfold cutF; rw [hc]; rfl
      rw [e2]
      have P1 : Hid (∀ w3, Gt G P (addM s' (cutP r)) (tl ++ dn) b m (msC (.slice am ml.length cm) ml :: cs) w3 → Gt G P R.s (tl ++ R.tl) b m (msC (.slice am ml.length cm) R.ms :: cs) w3) := hid (fun w3 h => by
        rw [HX.out, feedM_open hc HB.out.1.ok]
        simp only [List.append_nil]
        rw [e1] at h
        exact h)
      clear HX HPR G2 HRd e1 e2 hc hcp
      generalize cutP r = pc at *
      generalize cutR r = rc at *
      generalize pc.length = np at *
      generalize rc.length = nr at *
      go_wp2_with (go_at_call 32; refine AC.out.mono ?_; rintro e w3 ⟨rfl, G3⟩; have G3 := hid (P1.out _ G3))
      go_ret
      exact ⟨_, rfl, G3.out⟩
    | some i =>
      obtain ⟨hi1, hi2, hi3⟩ := cutN_some hc
      have e1 : cutP r = r.take i := by unfold cutP; rw [hc]
      have e2 : cutF r = true := by unfold cutF; rw [hc]; rfl
      have e3 : cutR r = r.drop (i + 1) := by unfold cutR; rw [hc]
      rw [e2]
      have hlt : (cutR r).length < r.length := by rw [e3, List.length_drop]; omega
      have HPR2 : Hid (∀ W, All cs W → Reads W (.slice ar' (cutR r).length cr') (cutR r)) := hid (fun W hW => (HPR.out W (HRd.out W hW)).2)
      have IX := hid (addM_I HB.out.1 (cutP r))
      have HX2 : Hid (R = ⟨(feedM m (nxtM (hearM m (addM s' (cutP r))).s) (cutR r)).s, ml ++ ((hearM m (addM s' (cutP r))).ms ++ (feedM m (nxtM (hearM m (addM s' (cutP r))).s) (cutR r)).ms), dn ++ ((hearM m (addM s' (cutP r))).tl ++ (feedM m (nxtM (hearM m (addM s' (cutP r))).s) (cutR r)).tl)⟩) := hid (by rw [HX.out, feedM_line hc HB.out.1.ok, e1, e3])
      clear HX HPR HRd e1 e2 e3 hc hi1 hi2 hi3 G2 hcp
      generalize addM s' (cutP r) = s2 at *
      generalize cutP r = pc at *
      generalize cutR r = rc at *
      generalize pc.length = np at *
      go_upto_region 6 with (go_at_call 32; refine AC.out.mono ?_; rintro e w3 ⟨rfl, G3⟩; have G3 := hid G3)
      obtain ⟨txv, wsv, tov, A3⟩ := G3.out
      have d0 : w3.cell? ⟨G, 0, none⟩ = some (.int .i64 s2.no) := Gt.cell A3 0
      have d1 : w3.cell? ⟨G, 1, none⟩ = some txv := Gt.cell A3 1
      have d2 : w3.cell? ⟨G, 2, none⟩ = some (.bool s2.long) := Gt.cell A3 2
      have HC := hid (hear_gt A3.drew IX.out.ok (HE.out.cons _) IX.out.px IX.out.no0 (by have := IX.out.no1; have := HK.out; have := HB.out.2.1; have := HL.out; omega) IX.out.ws IX.out.n (by have := HT.out; have := HB.out.2; have := HL.out; rw [List.length_append]; omega))
      clear A3 G3 AC
      have AP : Hid (∀ v2 W, Gt G P (hearM m s2).s (tl ++ dn ++ (hearM m s2).tl) b m (msC v2 (hearM m s2).ms :: msC (.slice am ml.length cm) ml :: cs) W → ∃ a2 n2 c2, v2 = .slice a2 n2 c2 ∧ ∃ ao cap w', (Builtin.append_ #[59, 59] 59 #[.slice am ml.length cm, .slice a2 n2 c2]).run Tryz.prog W = .ok (.slice ao (ml.length + (hearM m s2).ms.length) cap) w' ∧ Gt G P (hearM m s2).s (tl ++ (dn ++ (hearM m s2).tl)) b m (msC (.slice ao (ml.length + (hearM m s2).ms.length) cap) (ml ++ (hearM m s2).ms) :: cs) w') := hid (fun v2 W hG => by
        obtain ⟨txv', wsv', tov', A⟩ := hG
        have A2 := (A.perm (List.perm_middle (l₁ := gtL G P (hearM m s2).s (tl ++ dn ++ (hearM m s2).tl) b m txv' wsv' tov'))).perm (List.Perm.cons _ (List.perm_middle (l₁ := gtL G P (hearM m s2).s (tl ++ dn ++ (hearM m s2).tl) b m txv' wsv' tov')))
        obtain ⟨a2, c2, rfl⟩ := owns_form A2.1.2.1
        have h1 := hearM_ms m s2
        obtain ⟨ao, cap, w', hr, A3⟩ := appMs A2.swap (by have := HB.out.2; have := HL.out; omega)
        refine ⟨a2, _, c2, rfl, ao, cap, w', hr, txv', wsv', tov', ?_⟩
        rw [← List.append_assoc]
        exact (A3.swap.tail).perm List.perm_middle.symm)
      go_region_law (first | (refine step_append_run (by rfl) _ _ 59 (by rfl) _ _ _ _ (by rfl) (by rfl) hr.out ?_) | (go_simp; go_at_call 33; refine HC.out.mono ?_; rintro e w4 ⟨v2, rfl, G4⟩; obtain ⟨a2, n2, c2, rfl, ao, cap, w5, hr, G5⟩ := AP.out v2 w4 G4; have hr := hid hr; have G5 := hid G5; clear G4))
      obtain ⟨txv2, wsv2, tov2, A6⟩ := G5.out
      obtain ⟨hI3, hT3⟩ := hearM_I IX.out (by have := HK.out; have := HB.out.2.1; have := HL.out; omega)
      have h1 := hearM_ms m s2
      have N := hid (Gt.next A6)
      have g0 : w5.cell? ⟨G, 0, none⟩ = some (.int .i64 (hearM m s2).s.no) := Gt.cell A6 0
      have g1 : w5.cell? ⟨G, 1, none⟩ = some txv2 := Gt.cell A6 1
      have g2 : w5.cell? ⟨G, 2, none⟩ = some (.bool (hearM m s2).s.long) := Gt.cell A6 2
      have f0 := Gt.free A6 0
      have f1 := Gt.free A6 1
      have f2 := Gt.free A6 2
      have wn : IntKind.i64.wrap ((hearM m s2).s.no + 1) = (hearM m s2).s.no + 1 := by
        have := hI3.no0; have := hI3.no1; have := HK.out; have := HB.out.2.1; have := HL.out
        rw [IntKind.wrap_i64]; omega
      have IN := hid (nxtM_I hI3)
      have HX3 : Hid (R = ⟨(feedM m (nxtM (hearM m s2).s) rc).s, (ml ++ (hearM m s2).ms) ++ (feedM m (nxtM (hearM m s2).s) rc).ms, (dn ++ (hearM m s2).tl) ++ (feedM m (nxtM (hearM m s2).s) rc).tl⟩) := hid (by rw [HX2.out, List.append_assoc, List.append_assoc])
      have HB3 : Hid (k + 1 + rc.length ≤ l.length ∧ (ml ++ (hearM m s2).ms).length ≤ k + 1 ∧ (dn ++ (hearM m s2).tl).length ≤ (k + 1) * 4800) := hid (by
        have := HB.out.2
        rw [List.length_append, List.length_append]
        omega)
      have hml : ml.length + (hearM m s2).ms.length = (ml ++ (hearM m s2).ms).length := List.length_append.symm
      simp only [hml] at N ⊢
      clear HX2 HC hr G5 A6 hI3 hT3 h1 AP IX hml
      generalize (hearM m s2).ms = ms2 at *
      generalize (hearM m s2).tl = tl2 at *
      generalize (hearM m s2).s = s3 at *
      generalize hml : (ml ++ ms2).length = nml at *
      have hml := hid hml
      go_wp2
      go_roundw
      case rel => exact ⟨rc, nxtM s3, dn ++ tl2, ml ++ ms2, k + 1, ar', cr', ao, cap, rfl, by rw [hml.out], HPR2, HX3, hid ⟨IN.out.mono (by omega), HB3.out.1, by rw [hml.out]; exact HB3.out.2.1, HB3.out.2.2⟩, hid (by rw [hml.out]; exact N.out)⟩
      case measure => exact hlt
end Go.Proofs.YtdhkdniddjnigaaGreatDoor

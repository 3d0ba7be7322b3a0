import Derived.Test.YtkcepkehgkkkbabGreatDoorSortG
import Derived.Test.YtkcepkehgkkkbabGreatDoorJ18
import Derived.Sort.KeysCollected
namespace Go.Proofs.YtkcepkehgkkkbabGreatDoor
open Go.RowKit
open Go.Maps (Keyed)
set_option linter.unusedVariables false

/-- The groups of a map, by their names. -/
def grS (D : DataW Unit) : List Grp := ((strKeys D).mergeSort leB).map fun x => (x, leftD D (.string x))
theorem keys_perm {D : DataW Unit} {w : World} {b n : Nat} (hown : w.ownsMap Tryz.prog 9 rE b n D) {ss : List (List UInt8)} (hnd : ss.Nodup) (hm : ∀ x, x ∈ ss ↔ Maps.has D (.string x) = true) : ss.Perm (strKeys D) := by
  obtain ⟨es, hD, hpw, _⟩ := hown.entries lawS
  obtain ⟨es', hD', hko⟩ := hown.keysOf
  obtain rfl : es = es' := by rw [hD] at hD'; simpa using hD'
  subst hD
  exact perm_strKeys hpw (fun p hp => by obtain ⟨v, hv⟩ := hko p hp; obtain ⟨x, _, hx, _⟩ := Maps.keyOf_str Tryz.underlying9 hv; exact ⟨x, hx⟩) hnd hm
theorem grS_len {D : DataW Unit} {w : World} {b n : Nat} (hown : w.ownsMap Tryz.prog 9 rE b n D) : (grS D).length = Maps.size D := by
  obtain ⟨es, rfl, _⟩ := hown.entries lawS
  simp [grS, strKeys, Maps.size_eq]
theorem Coll.fin {D : DataW Unit} {cnt : Nat} {gs gs' : List Grp} (h : Coll D (fun _ => false) cnt gs) {w : World} {b n : Nat} (hown : w.ownsMap Tryz.prog 9 rE b n D) (hp : gs'.Perm gs) (hs : SortedG gs') : gs' = grS D := by
  have hk : (gs.map Prod.fst).Perm (strKeys D) := keys_perm hown h.nodup fun x => by
    rw [List.mem_map]
    constructor
    · rintro ⟨⟨y, c⟩, hm, rfl⟩
      exact ((h.mem _ _).1 hm).1
    · intro hx
      exact ⟨(x, leftD D (.string x)), (h.mem _ _).2 ⟨hx, rfl, rfl⟩, rfl⟩
  have hval : ∀ g ∈ gs', g = (g.1, leftD D (.string g.1)) := fun g hg => by
    have := ((h.mem g.1 g.2).1 (hp.mem_iff.1 hg)).2.2
    rw [← this]
  have e1 : gs' = (gs'.map Prod.fst).map fun x => (x, leftD D (.string x)) := by
    rw [List.map_map]
    conv => lhs; rw [← List.map_id gs']
    exact List.map_congr_left fun g hg => hval g hg
  have hp2 : (gs'.map Prod.fst).Perm (strKeys D) := (hp.map _).trans hk
  have tr : ∀ a b c : List UInt8, leB a b = true → leB b c = true → leB a c = true := fun a b c h1 h2 => by simp only [leB, decide_eq_true_eq] at *; exact List.le_trans h1 h2
  have tt : ∀ a b : List UInt8, (leB a b || leB b a) = true := fun a b => by simp only [leB, Bool.or_eq_true, decide_eq_true_eq]; exact List.le_total a b
  have e2 : gs'.map Prod.fst = (strKeys D).mergeSort leB := by
    refine List.Perm.eq_of_pairwise (le := fun a b => leB a b = true) (fun a b _ _ h1 h2 => ?_) ?_ (List.pairwise_mergeSort tr tt _) (hp2.trans (List.mergeSort_perm _ leB).symm)
    · simp only [leB, decide_eq_true_eq] at h1 h2
      exact List.le_antisymm h1 h2
    · refine List.pairwise_map.2 (hs.imp fun {x y} hxy => ?_)
      simp only [leB, decide_eq_true_eq]
      exact List.not_lt.1 hxy
  rw [e1, e2]
  rfl

set_option maxHeartbeats 6400000 in
set_option maxRecDepth 1000000 in
theorem byName_any {P i b n : Nat} {qs : List Qv} {q : Qv} {D : DataW Unit} {cs : List Comp} {w : World} (h : All (mapC b n D :: blkC P (flat qs) 74 :: cs) w) (hq : qs[i]? = some q) (hgv : q.gv = .map (some b)) (hs4 : Maps.size D ≤ 12) :
    Calls Tryz.prog 76 #[.pointer (some ⟨P, i * 4, none⟩)] w fun e w' => ∃ v, e = .returned v ∧ All (rowG v (grS D) :: mapC b n D :: blkC P (flat qs) 74 :: cs) w' := by
  obtain ⟨i0, hi, hz0, hz1, hz2⟩ := info_parts Tryz.info111
  have c0 := h.q3 mem2 hq
  rw [hgv] at c0
  have HO : w.ownsMap Tryz.prog 9 rE b n D := h.1.2.1
  have hsz := HO.size_le
  have H := hid h
  have HD := hid hs4
  clear h hq hgv hs4
  go_enter Tryz.func76, Tryz.ntmps76
  go_wp2_with (first | (at_range; refine wpList_range_own _ rfl _ 66 rfl 9 3 lawS Tryz.und66 _ b n D rfl HO ?_; intro w0 hrg0 hg0 hs0) | go_in)
  have A0 := hid ((H.out.it_start hg0 hs0 hrg0).addNilG)
  have T0 := hid (Coll.start D)
  clear H HO hrg0 hg0 hs0 c0
  generalize w.heap.size = r at *
  go_frame
  go_loopw [3] (fun ov wr => ∃ (left : Lit → Bool) (cnt : Nat) (gs : List (List UInt8 × Int)), Hid (Coll D left cnt gs) ∧ Hid (All (rowG ov gs :: itC b r n D left cnt :: blkC P (flat qs) 74 :: cs) wr)) (fun _ wr => wr.rangeLeft b r)
  case atStart => exact ⟨_, _, [], T0, A0⟩
  case round =>
    obtain ⟨left, cnt, gs, TR, AR⟩ := hrel
    clear T0 A0
    have hrg : wr.ranges Tryz.prog 9 rE b r n D left cnt := AR.out.2.2.1.2.1
    have hsl : gs.length ≤ 1048576 := by
      have h1 := TR.out.size
      have h2 := HD.out
      omega
    obtain ⟨oa, oc, hoe⟩ := owns_form (AR.out.1.2.1 : wr.ownsRow 0 111 2 _ gs.length (cellsG gs))
    subst hoe
    have HRG := hid hrg
    go_wp2_with (at_next; refine wpList_next_ranges _ rfl _ rfl 9 lawS rE encStr (Value.int .i64) invK9 invV3 b r n _ _ _ rfl hrg ?_ ?_)
    · intro hc0 hl0
      have hle : left = fun _ => false := funext hl0
      subst hle
      have hl4 : gs.length ≤ 12 := by
        have h1 := TR.out.size
        have h2 := HD.out
        omega
      have T2 := hid TR.out
      have HW := hid (HRG.out.owns)
      clear hc0 hl0 hrg HRG TR hsl
      go_wp2_with fail
      refine (sortG_own AR.out hl4).mono ?_
      rintro e w2 ⟨rfl, gs', hp, hs, A2⟩
      have eg := T2.out.fin HW.out hp hs
      subst eg
      have A2 := hid A2
      clear hp hs AR
      go_wp2
      go_ret
      exact ⟨_, rfl, (A2.out.swap.it_end).swap⟩
    · intro x c kl yd yp w1 cnt1 hkey hlk hv hat hrg1 hlt hg1 hs1 hen
      obtain ⟨x', ex, rfl, hxl⟩ := keyS_inv hkey
      obtain rfl : x = x' := strB_inj (by simpa [encStr] using ex)
      obtain ⟨c', ec, ey, hwc⟩ := plainElem_int_inv Tryz.underlying3 hv
      cases ec
      simp only [Prod.mk.injEq] at ey
      have hkl : WideAt.IsKeyLit (.string x) := lawS.key hkey
      have hcv : c = leftD D (.string x) := by
        unfold leftD
        rw [hat, ey.1]
      have A1 := hid (AR.out.swap.it_turn (Or.inr rfl) hg1 hrg1).swap
      have hown : w1.ownsRow 0 111 2 (.slice oa gs.length oc) gs.length (cellsG gs) := A1.out.1.2.1
      have C1 := hid (TR.out.next hkl hlk hlt)
      have M1 := hid (show w1.rangeLeft b r < wr.rangeLeft b r from by rw [hrg1.left_eq, HRG.out.left_eq]; exact hlt)
      have HCV := hid hcv
      clear ex hs1 hg1 AR hrg hkl hat hv ey hlk hcv hkey hrg1 TR HRG
      go_wp2_with (at_builtin; refine wpList_append_own_at _ rfl (.tmp 16) (.tmp 20) 76 rfl 0 111 i0 (.agg #[.string ⟨#[]⟩, .int .i64 0]) 2 24 Tryz.und76 hi hz0 hz1 hz2 rfl (by decide) _ _ _ rfl (hown.alloc _) ⟨w1.heap.size, 0, none⟩ 1 1 [encStr x, .int .i64 c] rfl rfl (fun j u hu => news_new _ #[encStr x, .int .i64 c] 111 j u hu) (fun u hu => by simp at hu; rcases hu with rfl | rfl <;> rfl) (by unfold maxLen; omega) (by omega) (by omega) ?_)
      intro v' w2 hown2 hgr2 hnil hat2
      have hlen2 : (gs ++ [(x, leftD D (.string x))]).length = gs.length + 1 := by simp
      have ecell : cellsG gs ++ [encStr x, .int .i64 c] = cellsG (gs ++ [(x, leftD D (.string x))]) := by simp [cellsG, HCV.out]
      rw [ecell] at hown2
      have A2 := hid ((A1.out.alloc (.cells #[encStr x, .int .i64 c] 111)).growG (gs' := gs ++ [(x, leftD D (.string x))]) (by rw [hlen2]; exact hown2) hgr2 (by simpa using hat2))
      obtain ⟨oa', oc', eo⟩ := owns_form hown2
      have M2 := hid (show w2.rangeLeft b r < wr.rangeLeft b r from by
        have h2 : w2.ranges Tryz.prog 9 rE b r n D (fun z => left z && !z.sameKey (.string x)) cnt1 := A2.out.2.2.1.2.1
        have h1 : w1.ranges Tryz.prog 9 rE b r n D (fun z => left z && !z.sameKey (.string x)) cnt1 := A1.out.2.2.1.2.1
        rw [h2.left_eq, ← h1.left_eq]; exact M1.out)
      subst eo
      clear hown2 hgr2 hnil hat2 ecell hlen2 hown A1 M1
      go_wp2
      go_roundw
      case rel => exact ⟨_, _, _, C1, A2⟩
      case measure => exact M2.out
end Go.Proofs.YtkcepkehgkkkbabGreatDoor

namespace Go.Proofs.YtkcepkehgkkkbabGreatDoor
open Go.RowKit
set_option linter.unusedVariables false

theorem wrapK (k : Nat) (h : k < 12) : wrap64 ((k : Int) + 1) = ((k + 1 : Nat) : Int) := by unfold wrap64; omega
theorem measK {k m : Nat} (h : k < m) (h2 : k < 12) : m - (intOf (.int .i64 (wrap64 ((k : Int) + 1)))).toNat < m - (intOf (.int .i64 (k : Int))).toNat := by
  rw [wrapK k h2]
  show m - ((k + 1 : Nat) : Int).toNat < m - ((k : Nat) : Int).toNat
  rw [Int.toNat_natCast, Int.toNat_natCast]
  omega

set_option maxHeartbeats 6400000 in
set_option maxRecDepth 1000000 in
theorem bytes_gs {P i b n : Nat} {qs : List Qv} {nm : ByteArray} {first : Nat} {iv : Value} {items : List ByteArray} {D : DataW Unit} {cs : List Comp} {w : World} (h : All (blkC P (flat qs) 74 :: ownC 9 iv (txtV items) :: mapC b n D :: cs) w) (hq : qs[i]? = some ⟨nm, first, iv, .map (some b)⟩)
    (hnm : nm.size ≤ 1048576) (hfs : first < 1152921504606846976) (hit : bulkT items ≤ 1099511627776) (hil : items.length < 1048576) (hs4 : Maps.size D ≤ 12) {gs : List Grp} (hG : grS D = gs) (hgk : ∀ g ∈ gs, g.1.length ≤ 1048576 ∧ ∃ c : Nat, g.2 = (c : Int) ∧ c < 1152921504606846976) :
    Calls Tryz.prog 44 #[.pointer (some ⟨P, i * 4, none⟩)] w fun e w' => ∃ so sn sc, e = .returned (.slice so sn sc) ∧ All (ownC 5 (.slice so sn sc) (cellsB (slotB nm first items gs)) :: blkC P (flat qs) 74 :: ownC 9 iv (txtV items) :: mapC b n D :: cs) w' := by
  obtain ⟨ao, cp, eiv⟩ := owns_form (h.2.2.1.2.1 : w.ownsRow 0 9 1 iv (txtV items).length (txtV items))
  rw [List.length_map] at eiv
  subst eiv
  have HH := hid h
  have HQ := hid hq
  have HD := hid hs4
  have HC := hid hgk
  have HG := hid hG
  have c1 := h.q0 List.mem_cons_self hq
  clear h hq hs4 hgk hG
  go_enter Tryz.func44, Tryz.ntmps44
  go_wp2_with fail
  refine (newW HH.out).mono ?_
  rintro e w1 ⟨B, rfl, A⟩
  have A := hid A
  clear HH c1
  have c1 := A.out.q0 mem2 HQ.out
  go_wp2_with fail
  refine (textW A.out nm (by simp [lenS]; omega)).mono ?_
  rintro e w2 ⟨rfl, v2, A2⟩
  have A := hid A2
  clear A2 c1
  have c1 := A.out.q1 mem2 HQ.out
  have L2 := hid (len2 nm hnm)
  go_wp2_with fail
  refine (natW A.out first (by omega) (by have := L2.out; omega)).mono ?_
  rintro e w3 ⟨rfl, v3, A2⟩
  have A := hid A2
  clear A2 c1
  have c1 := A.out.q2 mem2 HQ.out
  rw [addS_addS] at A
  have L3 := hid (len3 nm first hnm)
  go_wp2_with fail
  refine (putItems_any (l := items) A.out (fun w' hw' => txts_of (e := 9) hw' mem2) (by have := L3.out; omega) (by omega)).mono ?_
  rintro e w4 ⟨rfl, v4, A2⟩
  rw [addS_addS] at A2
  have A := hid A2
  clear A2 c1
  have c1 := A.out.q3 mem2 HQ.out
  have hlm := ((A.out.mem mem4).2.1 : w4.ownsMap Tryz.prog 9 rE b n D).len Tryz.und66
  have hgl := grS_len ((A.out.mem mem4).2.1 : w4.ownsMap Tryz.prog 9 rE b n D)
  rw [HG.out] at hgl
  rw [← hgl] at hlm
  have hg12 : Hid (gs.length ≤ 12) := by
    have := HD.out
    show _ ≤ _
    omega
  clear hgl
  have L4 := hid (len4 nm first items hnm hit)
  go_wp2_with fail
  refine (natW A.out gs.length (by have := hg12.out; omega) (by have := L4.out; omega)).mono ?_
  rintro e w5 ⟨rfl, v5, A2⟩
  rw [addS_addS] at A2
  have A := hid A2
  clear A2 c1 hlm
  go_wp2_with fail
  refine (byName_any (A.out.perm (ds := mapC b n D :: blkC P (flat qs) 74 :: wrC B v5 (addS (some []) (enc 9 nm.size ++ nm.data.toList ++ enc 9 first ++ itemsB items ++ enc 9 gs.length)) :: ownC 9 (.slice ao items.length cp) (txtV items) :: cs) ?_) HQ.out rfl HD.out).mono ?_
  · refine List.Perm.trans (l₂ := mapC b n D :: wrC B v5 (addS (some []) (enc 9 nm.size ++ nm.data.toList ++ enc 9 first ++ itemsB items ++ enc 9 gs.length)) :: blkC P (flat qs) 74 :: ownC 9 (.slice ao items.length cp) (txtV items) :: cs) ?_ (List.Perm.cons _ (List.Perm.swap _ _ _))
    exact List.perm_middle (l₁ := [wrC B v5 (addS (some []) (enc 9 nm.size ++ nm.data.toList ++ enc 9 first ++ itemsB items ++ enc 9 gs.length)), blkC P (flat qs) 74, ownC 9 (.slice ao items.length cp) (txtV items)])
  rintro e w6 ⟨gv, rfl, A2⟩
  rw [HG.out] at A2
  obtain ⟨ga, gc, eg⟩ := owns_form (A2.1.2.1 : w6.ownsRow 0 111 2 gv gs.length (cellsG gs))
  subst eg
  have A := hid (A2.perm (ds := wrC B v5 (addS (some []) (enc 9 nm.size ++ nm.data.toList ++ enc 9 first ++ itemsB items ++ enc 9 gs.length)) :: rowG (.slice ga gs.length gc) gs :: mapC b n D :: blkC P (flat qs) 74 :: ownC 9 (.slice ao items.length cp) (txtV items) :: cs) (List.perm_middle (l₁ := [rowG (.slice ga gs.length gc) gs, mapC b n D, blkC P (flat qs) 74])))
  clear A2
  generalize hST : addS (some []) (enc 9 nm.size ++ nm.data.toList ++ enc 9 first ++ itemsB items ++ enc 9 gs.length) = st at A
  have LS : Hid (lenS st ≤ 1099517000010) := by
    have h1 := L4.out
    have h2 := enc_len 9 gs.length
    rw [lenS0] at h1
    show _ ≤ _
    rw [← hST, lenS0, List.length_append]
    omega
  have HST := hid hST
  clear hST L2 L3 L4
  go_wp2
  go_loopw [37] (fun jv wr => ∃ (k : Nat) (v' : Value), jv = .int .i64 (k : Int) ∧ k ≤ gs.length ∧ Hid (All (wrC B v' (addS st (groupsB (gs.take k))) :: rowG (.slice ga gs.length gc) gs :: mapC b n D :: blkC P (flat qs) 74 :: ownC 9 (.slice ao items.length cp) (txtV items) :: cs) wr)) (fun jv _ => gs.length - (intOf jv).toNat)
  case atStart => exact ⟨0, v5, rfl, by omega, by simpa [groupsB, addS_nil] using A⟩
  case round =>
    obtain ⟨k, v', rfl, hk, AR⟩ := hrel
    clear A
    by_cases hlt : k < gs.length
    · obtain ⟨g, ea, hg, e0, e1⟩ := rowG_at (AR.out.2.2.1.2.1 : wr.ownsRow 0 111 2 (.slice ga gs.length gc) gs.length (cellsG gs)) (k := k) hlt
      subst ea
      obtain ⟨hx, c0, hc0, hcb⟩ := HC.out gs[k] (List.getElem_mem hlt)
      have HT := hid (groupsB_take hlt)
      have LG : Hid ((groupsB (gs.take k)).length ≤ 12583200) := by
        have h1 := groupsB_len (gs := gs.take k) (fun g hg => (HC.out g (List.mem_of_mem_take hg)).1)
        have h2 : (gs.take k).length ≤ 12 := by
          have := hg12.out
          rw [List.length_take]; omega
        show _ ≤ _
        omega
      rw [hc0] at e1
      have hx0 : Hid (gs[k].1 = gs[k].1) := hid rfl
      generalize gs[k].1 = x0 at e0 hx HT
      rw [hc0] at HT
      clear hc0 hx0
      have AN := hid (AR.out.addBlk [encStr x0, .int .i64 (c0 : Int)] 111)
      clear AR
      go_wp2_with fail
      have A1 := hid (AN.out.swap)
      clear AN
      refine (textW A1.out (strB x0) (by
        have h1 := LS.out
        have h2 := LG.out
        have h3 := lenS_addS st (groupsB (gs.take k))
        have h4 : (strB x0).size = x0.length := by simp [strB, ByteArray.size]
        omega)).mono ?_
      rintro e w7 ⟨rfl, v7, A2⟩
      have A2 := hid A2
      clear A1
      have hb : w7.heap[wr.heap.size]? = some (.cells [encStr x0, .int .i64 (c0 : Int)].toArray 111 (0, 0)) := A2.out.blk mem2
      have d1 : w7.cell? ⟨wr.heap.size, 1, none⟩ = some (.int .i64 (c0 : Int)) := by rw [cell_at hb]; rfl
      clear hb
      have L7 : Hid (lenS (addS (addS st (groupsB (gs.take k))) (enc 9 (strB x0).size ++ (strB x0).data.toList)) ≤ 1099540000000) := by
        have h1 := LS.out
        have h2 := enc_len 9 (strB x0).size
        have h3 := lenS_addS (addS st (groupsB (gs.take k))) (enc 9 (strB x0).size ++ (strB x0).data.toList)
        rw [List.length_append, str_len] at h3
        have h4 : (strB x0).size = x0.length := by simp [strB, ByteArray.size]
        have h5 := lenS_addS st (groupsB (gs.take k))
        have h6 := LG.out
        show _ ≤ _
        omega
      go_wp2_with fail
      refine (natW A2.out c0 (by omega) (by have := L7.out; omega)).mono ?_
      rintro e w8 ⟨rfl, v8, A3⟩
      have A4 := hid (A3.swap.tail)
      clear A3 A2 d1 L7 e0 e1
      go_wp2
      go_roundw
      case rel =>
        refine ⟨k + 1, v8, congrArg (Value.int .i64) (wrapK k (by have := hg12.out; omega)), hlt, ?_⟩
        have e : addS (addS (addS st (groupsB (gs.take k))) (enc 9 (strB x0).size ++ (strB x0).data.toList)) (enc 9 c0) = addS st (groupsB (gs.take (k + 1))) := by
          rw [addS_addS, addS_addS]
          congr 1
          rw [HT.out]
          simp [strB, ByteArray.size]
        have h4 := A4.out
        rw [e] at h4
        exact h4
      case measure => exact measK hlt (by have := hg12.out; omega)
    · obtain rfl : k = gs.length := by omega
      have e : addS st (groupsB (gs.take gs.length)) = some (slotB nm first items gs) := by
        rw [← HST.out, addS_addS]
        simp [addS, slotB]
      rw [e] at AR
      have AR := hid AR.out
      have hlen : (slotB nm first items gs).length ≤ 1099530000000 := by
        have h1 := LS.out
        rw [← HST.out, lenS0] at h1
        have h2 := groupsB_len (gs := gs) (fun g hg => (HC.out g hg).1)
        have h3 := hg12.out
        have h4 : (slotB nm first items gs).length = (enc 9 nm.size ++ nm.data.toList ++ enc 9 first ++ itemsB items ++ enc 9 gs.length).length + (groupsB gs).length := by
          simp [slotB]; omega
        omega
      clear e
      go_wp2_with fail
      refine (doneW AR.out (by omega)).mono ?_
      rintro e w7 ⟨so, sc, rfl, A2⟩
      have A2 := hid A2
      clear AR
      go_wp2
      go_ret
      refine ⟨so, _, sc, rfl, ?_⟩
      have h1 := (A2.out.swap.tail).swap.tail
      refine h1.perm (List.Perm.cons _ ?_)
      refine List.Perm.trans (l₂ := blkC P (flat qs) 74 :: mapC b n D :: ownC 9 (.slice ao items.length cp) (txtV items) :: cs) (List.Perm.swap _ _ _) (List.Perm.cons _ (List.Perm.swap _ _ _))
end Go.Proofs.YtkcepkehgkkkbabGreatDoor

namespace Go.Proofs.YtkcepkehgkkkbabGreatDoor
open Go.RowKit
set_option linter.unusedVariables false

set_option maxHeartbeats 1600000 in
set_option maxRecDepth 1000000 in
/-- A slot that holds a queue. -/
theorem slot_gs {P i b n : Nat} {qs : List Qv} {nm : ByteArray} {first : Nat} {iv : Value} {items : List ByteArray} {D : DataW Unit} {cs : List Comp} {w : World} (h : All (blkC P (flat qs) 74 :: ownC 9 iv (txtV items) :: mapC b n D :: cs) w) (h8 : qs.length = 8) (hq : qs[i]? = some ⟨nm, first, iv, .map (some b)⟩)
    (hne : nm.size ≠ 0) (hnm : nm.size ≤ 1048576) (hfs : first < 1152921504606846976) (hit : bulkT items ≤ 1099511627776) (hil : items.length < 1048576) (hs4 : Maps.size D ≤ 12) {gs : List Grp} (hG : grS D = gs) (hgk : ∀ g ∈ gs, g.1.length ≤ 1048576 ∧ ∃ c : Nat, g.2 = (c : Int) ∧ c < 1152921504606846976) :
    Calls Tryz.prog 20 #[.pointer (some ⟨P, 0, none⟩), .int .i64 (i : Int)] w fun e w' => ∃ so sn sc, e = .returned (.slice so sn sc) ∧ All (ownC 5 (.slice so sn sc) (cellsB (slotB nm first items gs)) :: blkC P (flat qs) 74 :: ownC 9 iv (txtV items) :: mapC b n D :: cs) w' := by
  have hi8 : i < 8 := by have := (List.getElem?_eq_some_iff.1 hq).1; omega
  have HF := hid (isFree_any (h.q0 List.mem_cons_self hq))
  rw [nonempty nm hne] at HF
  have HB := hid (bytes_gs h hq hnm hfs hit hil hs4 hG hgk)
  have i1 : decide ((i : Int) < 0) = false := by simp
  have i2 : decide ((8 : Int) ≤ (i : Int)) = false := by simp; omega
  have i3 : (0 : Int) ≤ (i : Int) := by omega
  have i4 : (i : Int) < 8 := by omega
  clear h hq hs4 hG hgk
  go_enter Tryz.func20, Tryz.ntmps20
  go_wp2_with fail
  refine HF.out.mono ?_
  rintro e w1 ⟨rfl, rfl⟩
  go_wp2_with fail
  refine HB.out.mono ?_
  rintro e w2 ⟨so, sn, sc, rfl, A2⟩
  have A2 := hid A2
  clear HB HF
  go_wp2
  go_ret
  exact ⟨so, sn, sc, rfl, A2.out⟩

set_option maxHeartbeats 1600000 in
set_option maxRecDepth 1000000 in
/-- A slot that is free. -/
theorem slot_free {P i : Nat} {qs : List Qv} {q : Qv} {cs : List Comp} {w : World} (h : All (blkC P (flat qs) 74 :: cs) w) (h8 : qs.length = 8) (hq : qs[i]? = some q) (hne : q.nm.toList = []) :
    Calls Tryz.prog 20 #[.pointer (some ⟨P, 0, none⟩), .int .i64 (i : Int)] w fun e w' => e = .returned (.slice none 0 0) ∧ All (blkC P (flat qs) 74 :: cs) w' := by
  have hi8 : i < 8 := by have := (List.getElem?_eq_some_iff.1 hq).1; omega
  have HF := hid (isFree_any (h.q0 List.mem_cons_self hq))
  rw [hne] at HF
  have HA := hid h
  have i1 : decide ((i : Int) < 0) = false := by simp
  have i2 : decide ((8 : Int) ≤ (i : Int)) = false := by simp; omega
  have i3 : (0 : Int) ≤ (i : Int) := by omega
  have i4 : (i : Int) < 8 := by omega
  clear h hq hne
  go_enter Tryz.func20, Tryz.ntmps20
  go_wp2_with fail
  refine HF.out.mono ?_
  rintro e w1 ⟨rfl, rfl⟩
  go_wp2
  go_ret
  exact ⟨rfl, HA.out⟩
end Go.Proofs.YtkcepkehgkkkbabGreatDoor

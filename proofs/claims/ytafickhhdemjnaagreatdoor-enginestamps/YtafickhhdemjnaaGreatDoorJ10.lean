import Derived.Test.YtafickhhdemjnaaGreatDoorJ9
import Derived.Test.YtafickhhdemjnaaGreatDoorJ8
import Derived.Sort.KeysCollected
namespace Go.Proofs.YtafickhhdemjnaaGreatDoor
open Go.RowKit
open Go.Maps (Keyed)
set_option linter.unusedVariables false

/-- The groups of a map, by their names. -/
def grS (D : DataW Unit) : List Grp := ((strKeys D).mergeSort leB).map fun x => (x, leftD D (.string x))
theorem keys_perm {D : DataW Unit} {w : World} {b n : Nat} (hown : w.ownsMap Tryz.prog 9 rE b n D) {ss : List (List UInt8)} (hnd : ss.Nodup) (hm : ∀ x, x ∈ ss ↔ Maps.has D (.string x) = true) : ss.Perm (strKeys D) := by
  obtain ⟨es, hD, hpw, _⟩ := hown.entries lawS
  obtain ⟨es', hD', hko⟩ := hown.keysOf
  obtain rfl : es = es' := by rw [hD] at hD'; simpa using hD'
  subst hD
  exact perm_strKeys hpw (fun p hp => by obtain ⟨v, hv⟩ := hko p hp; obtain ⟨x, _, hx, _⟩ := Maps.keyOf_str Tryz.underlying9 hv; exact ⟨x, hx⟩) hnd hm
theorem grS_len {D : DataW Unit} {w : World} {b n : Nat} (hown : w.ownsMap Tryz.prog 9 rE b n D) : (grS D).length = Maps.size D := by
  obtain ⟨es, rfl, _⟩ := hown.entries lawS
  simp [grS, strKeys, Maps.size_eq]
theorem Coll.fin {D : DataW Unit} {cnt : Nat} {gs gs' : List Grp} (h : Coll D (fun _ => false) cnt gs) {w : World} {b n : Nat} (hown : w.ownsMap Tryz.prog 9 rE b n D) (hp : gs'.Perm gs) (hs : SortedG gs') : gs' = grS D := by
  have hk : (gs.map Prod.fst).Perm (strKeys D) := keys_perm hown h.nodup fun x => by
    rw [List.mem_map]
    constructor
    · rintro ⟨⟨y, c⟩, hm, rfl⟩
      exact ((h.mem _ _).1 hm).1
    · intro hx
      exact ⟨(x, leftD D (.string x)), (h.mem _ _).2 ⟨hx, rfl, rfl⟩, rfl⟩
  have hval : ∀ g ∈ gs', g = (g.1, leftD D (.string g.1)) := fun g hg => by
    have := ((h.mem g.1 g.2).1 (hp.mem_iff.1 hg)).2.2
    rw [← this]
  have e1 : gs' = (gs'.map Prod.fst).map fun x => (x, leftD D (.string x)) := by
    rw [List.map_map]
    conv => lhs; rw [← List.map_id gs']
    exact List.map_congr_left fun g hg => hval g hg
  have hp2 : (gs'.map Prod.fst).Perm (strKeys D) := (hp.map _).trans hk
  have tr : ∀ a b c : List UInt8, leB a b = true → leB b c = true → leB a c = true := fun a b c h1 h2 => by simp only [leB, decide_eq_true_eq] at *; exact List.le_trans h1 h2
  have tt : ∀ a b : List UInt8, (leB a b || leB b a) = true := fun a b => by simp only [leB, Bool.or_eq_true, decide_eq_true_eq]; exact List.le_total a b
  have e2 : gs'.map Prod.fst = (strKeys D).mergeSort leB := by
    refine List.Perm.eq_of_pairwise (le := fun a b => leB a b = true) (fun a b _ _ h1 h2 => ?_) ?_ (List.pairwise_mergeSort tr tt _) (hp2.trans (List.mergeSort_perm _ leB).symm)
    · simp only [leB, decide_eq_true_eq] at h1 h2
      exact List.le_antisymm h1 h2
    · refine List.pairwise_map.2 (hs.imp fun {x y} hxy => ?_)
      simp only [leB, decide_eq_true_eq]
      exact List.not_lt.1 hxy
  rw [e1, e2]
  rfl

set_option maxHeartbeats 6400000 in
set_option maxRecDepth 1000000 in
theorem byName_any {P i b n : Nat} {qs : List Qv} {q : Qv} {D : DataW Unit} {cs : List Comp} {w : World} (h : All (mapC b n D :: blkC P (flat qs) 159 :: cs) w) (hq : qs[i]? = some q) (hgv : q.gv = .map (some b)) (hs4 : Maps.size D ≤ 12) :
    Calls Tryz.prog 191 #[.pointer (some ⟨P, i * 4, none⟩)] w fun e w' => ∃ v, e = .returned v ∧ All (rowG v (grS D) :: mapC b n D :: blkC P (flat qs) 159 :: cs) w' := by
  obtain ⟨i0, hi, hz0, hz1, hz2⟩ := info_parts Tryz.info214
  have c0 := h.q3 mem2 hq
  rw [hgv] at c0
  have HO : w.ownsMap Tryz.prog 9 rE b n D := h.1.2.1
  have hsz := HO.size_le
  have H := hid h
  have HD := hid hs4
  clear h hq hgv hs4
  go_enter Tryz.func191, Tryz.ntmps191
  go_wp2_with (first | (at_range; refine wpList_range_own _ rfl _ 154 rfl 9 3 lawS Tryz.und154 _ b n D rfl HO ?_; intro w0 hrg0 hg0 hs0) | go_in)
  have A0 := hid ((H.out.it_start hg0 hs0 hrg0).addNilG)
  have T0 := hid (Coll.start D)
  clear H HO hrg0 hg0 hs0 c0
  generalize w.heap.size = r at *
  go_frame
  go_loopw [3] (fun ov wr => ∃ (left : Lit → Bool) (cnt : Nat) (gs : List (List UInt8 × Int)), Hid (Coll D left cnt gs) ∧ Hid (All (rowG ov gs :: itC b r n D left cnt :: blkC P (flat qs) 159 :: cs) wr)) (fun _ wr => wr.rangeLeft b r)
  case atStart => exact ⟨_, _, [], T0, A0⟩
  case round =>
    obtain ⟨left, cnt, gs, TR, AR⟩ := hrel
    clear T0 A0
    have hrg : wr.ranges Tryz.prog 9 rE b r n D left cnt := AR.out.2.2.1.2.1
    have hsl : gs.length ≤ 1048576 := by
      have h1 := TR.out.size
      have h2 := HD.out
      omega
    obtain ⟨oa, oc, hoe⟩ := owns_form (AR.out.1.2.1 : wr.ownsRow 0 214 2 _ gs.length (cellsG gs))
    subst hoe
    have HRG := hid hrg
    go_wp2_with (at_next; refine wpList_next_ranges _ rfl _ rfl 9 lawS rE encStr (Value.int .i64) invK9 invV3 b r n _ _ _ rfl hrg ?_ ?_)
    · intro hc0 hl0
      have hle : left = fun _ => false := funext hl0
      subst hle
      have hl4 : gs.length ≤ 12 := by
        have h1 := TR.out.size
        have h2 := HD.out
        omega
      have T2 := hid TR.out
      have HW := hid (HRG.out.owns)
      clear hc0 hl0 hrg HRG TR hsl
      go_wp2_with fail
      refine (sortG_own AR.out hl4).mono ?_
      rintro e w2 ⟨rfl, gs', hp, hs, A2⟩
      have eg := T2.out.fin HW.out hp hs
      subst eg
      have A2 := hid A2
      clear hp hs AR
      go_wp2
      go_ret
      exact ⟨_, rfl, (A2.out.swap.it_end).swap⟩
    · intro x c kl yd yp w1 cnt1 hkey hlk hv hat hrg1 hlt hg1 hs1 hen
      obtain ⟨x', ex, rfl, hxl⟩ := keyS_inv hkey
      obtain rfl : x = x' := strB_inj (by simpa [encStr] using ex)
      obtain ⟨c', ec, ey, hwc⟩ := plainElem_int_inv Tryz.underlying3 hv
      cases ec
      simp only [Prod.mk.injEq] at ey
      have hkl : WideAt.IsKeyLit (.string x) := lawS.key hkey
      have hcv : c = leftD D (.string x) := by
        unfold leftD
        rw [hat, ey.1]
      have A1 := hid (AR.out.swap.it_turn (Or.inr rfl) hg1 hrg1).swap
      have hown : w1.ownsRow 0 214 2 (.slice oa gs.length oc) gs.length (cellsG gs) := A1.out.1.2.1
      have C1 := hid (TR.out.next hkl hlk hlt)
      have M1 := hid (show w1.rangeLeft b r < wr.rangeLeft b r from by rw [hrg1.left_eq, HRG.out.left_eq]; exact hlt)
      have HCV := hid hcv
      clear ex hs1 hg1 AR hrg hkl hat hv ey hlk hcv hkey hrg1 TR HRG
      go_wp2_with (at_builtin; refine wpList_append_own_at _ rfl (.tmp 16) (.tmp 20) 116 rfl 0 214 i0 (.agg #[.string ⟨#[]⟩, .int .i64 0]) 2 24 Tryz.und116 hi hz0 hz1 hz2 rfl (by decide) _ _ _ rfl (hown.alloc _) ⟨w1.heap.size, 0, none⟩ 1 1 [encStr x, .int .i64 c] rfl rfl (fun j u hu => news_new _ #[encStr x, .int .i64 c] 214 j u hu) (fun u hu => by simp at hu; rcases hu with rfl | rfl <;> rfl) (by unfold maxLen; omega) (by omega) (by omega) ?_)
      intro v' w2 hown2 hgr2 hnil hat2
      have hlen2 : (gs ++ [(x, leftD D (.string x))]).length = gs.length + 1 := by simp
      have ecell : cellsG gs ++ [encStr x, .int .i64 c] = cellsG (gs ++ [(x, leftD D (.string x))]) := by simp [cellsG, HCV.out]
      rw [ecell] at hown2
      have A2 := hid ((A1.out.alloc (.cells #[encStr x, .int .i64 c] 214)).growG (gs' := gs ++ [(x, leftD D (.string x))]) (by rw [hlen2]; exact hown2) hgr2 (by simpa using hat2))
      obtain ⟨oa', oc', eo⟩ := owns_form hown2
      have M2 := hid (show w2.rangeLeft b r < wr.rangeLeft b r from by
        have h2 : w2.ranges Tryz.prog 9 rE b r n D (fun z => left z && !z.sameKey (.string x)) cnt1 := A2.out.2.2.1.2.1
        have h1 : w1.ranges Tryz.prog 9 rE b r n D (fun z => left z && !z.sameKey (.string x)) cnt1 := A1.out.2.2.1.2.1
        rw [h2.left_eq, ← h1.left_eq]; exact M1.out)
      subst eo
      clear hown2 hgr2 hnil hat2 ecell hlen2 hown A1 M1
      go_wp2
      go_roundw
      case rel => exact ⟨_, _, _, C1, A2⟩
      case measure => exact M2.out
end Go.Proofs.YtafickhhdemjnaaGreatDoor

namespace Go.Proofs.YtafickhhdemjnaaGreatDoor
open Go.RowKit
set_option linter.unusedVariables false

theorem wrapK (k : Nat) (h : k < 12) : wrap64 ((k : Int) + 1) = ((k + 1 : Nat) : Int) := by unfold wrap64; omega
theorem measK {k m : Nat} (h : k < m) (h2 : k < 12) : m - (intOf (.int .i64 (wrap64 ((k : Int) + 1)))).toNat < m - (intOf (.int .i64 (k : Int))).toNat := by
  rw [wrapK k h2]
  show m - ((k + 1 : Nat) : Int).toNat < m - ((k : Nat) : Int).toNat
  rw [Int.toNat_natCast, Int.toNat_natCast]
  omega

set_option maxHeartbeats 6400000 in
set_option maxRecDepth 1000000 in
theorem bytes_gs {P i b n : Nat} {qs : List Qv} {nm : ByteArray} {first : Nat} {iv : Value} {items : List ByteArray} {D : DataW Unit} {cs : List Comp} {w : World} (h : All (blkC P (flat qs) 159 :: ownC 9 iv (txtV items) :: mapC b n D :: cs) w) (hq : qs[i]? = some ⟨nm, first, iv, .map (some b)⟩)
    (hnm : nm.size ≤ 1048576) (hfs : first < 1152921504606846976) (hit : bulkT items ≤ 1099511627776) (hil : items.length < 1048576) (hs4 : Maps.size D ≤ 12) {gs : List Grp} (hG : grS D = gs) (hgk : ∀ g ∈ gs, g.1.length ≤ 1048576 ∧ ∃ c : Nat, g.2 = (c : Int) ∧ c < 1152921504606846976) :
    Calls Tryz.prog 163 #[.pointer (some ⟨P, i * 4, none⟩)] w fun e w' => ∃ so sn sc, e = .returned (.slice so sn sc) ∧ All (ownC 5 (.slice so sn sc) (cellsB (slotB nm first items gs)) :: blkC P (flat qs) 159 :: ownC 9 iv (txtV items) :: mapC b n D :: cs) w' := by
  obtain ⟨ao, cp, eiv⟩ := owns_form (h.2.2.1.2.1 : w.ownsRow 0 9 1 iv (txtV items).length (txtV items))
  rw [List.length_map] at eiv
  subst eiv
  have HH := hid h
  have HQ := hid hq
  have HD := hid hs4
  have HC := hid hgk
  have HG := hid hG
  have c1 := h.q0 List.mem_cons_self hq
  clear h hq hs4 hgk hG
  go_enter Tryz.func163, Tryz.ntmps163
  go_wp2_with fail
  refine (newW HH.out).mono ?_
  rintro e w1 ⟨B, rfl, A⟩
  have A := hid A
  clear HH c1
  have c1 := A.out.q0 mem2 HQ.out
  go_wp2_with fail
  refine (textW A.out nm (by simp [lenS]; omega)).mono ?_
  rintro e w2 ⟨rfl, v2, A2⟩
  have A := hid A2
  clear A2 c1
  have c1 := A.out.q1 mem2 HQ.out
  have L2 := hid (len2 nm hnm)
  go_wp2_with fail
  refine (natW A.out first (by omega) (by have := L2.out; omega)).mono ?_
  rintro e w3 ⟨rfl, v3, A2⟩
  have A := hid A2
  clear A2 c1
  have c1 := A.out.q2 mem2 HQ.out
  rw [addS_addS] at A
  have L3 := hid (len3 nm first hnm)
  go_wp2_with fail
  refine (putItems_any (l := items) A.out (fun w' hw' => txts_of (e := 9) hw' mem2) (by have := L3.out; omega) (by omega)).mono ?_
  rintro e w4 ⟨rfl, v4, A2⟩
  rw [addS_addS] at A2
  have A := hid A2
  clear A2 c1
  have c1 := A.out.q3 mem2 HQ.out
  have hlm := ((A.out.mem mem4).2.1 : w4.ownsMap Tryz.prog 9 rE b n D).len Tryz.und154
  have hgl := grS_len ((A.out.mem mem4).2.1 : w4.ownsMap Tryz.prog 9 rE b n D)
  rw [HG.out] at hgl
  rw [← hgl] at hlm
  have hg12 : Hid (gs.length ≤ 12) := by
    have := HD.out
    show _ ≤ _
    omega
  clear hgl
  have L4 := hid (len4 nm first items hnm hit)
  go_wp2_with fail
  refine (natW A.out gs.length (by have := hg12.out; omega) (by have := L4.out; omega)).mono ?_
  rintro e w5 ⟨rfl, v5, A2⟩
  rw [addS_addS] at A2
  have A := hid A2
  clear A2 c1 hlm
  go_wp2_with fail
  refine (byName_any (A.out.perm (ds := mapC b n D :: blkC P (flat qs) 159 :: wrC B v5 (addS (some []) (enc 9 nm.size ++ nm.data.toList ++ enc 9 first ++ itemsB items ++ enc 9 gs.length)) :: ownC 9 (.slice ao items.length cp) (txtV items) :: cs) ?_) HQ.out rfl HD.out).mono ?_
  · refine List.Perm.trans (l₂ := mapC b n D :: wrC B v5 (addS (some []) (enc 9 nm.size ++ nm.data.toList ++ enc 9 first ++ itemsB items ++ enc 9 gs.length)) :: blkC P (flat qs) 159 :: ownC 9 (.slice ao items.length cp) (txtV items) :: cs) ?_ (List.Perm.cons _ (List.Perm.swap _ _ _))
    exact List.perm_middle (l₁ := [wrC B v5 (addS (some []) (enc 9 nm.size ++ nm.data.toList ++ enc 9 first ++ itemsB items ++ enc 9 gs.length)), blkC P (flat qs) 159, ownC 9 (.slice ao items.length cp) (txtV items)])
  rintro e w6 ⟨gv, rfl, A2⟩
  rw [HG.out] at A2
  obtain ⟨ga, gc, eg⟩ := owns_form (A2.1.2.1 : w6.ownsRow 0 214 2 gv gs.length (cellsG gs))
  subst eg
  have A := hid (A2.perm (ds := wrC B v5 (addS (some []) (enc 9 nm.size ++ nm.data.toList ++ enc 9 first ++ itemsB items ++ enc 9 gs.length)) :: rowG (.slice ga gs.length gc) gs :: mapC b n D :: blkC P (flat qs) 159 :: ownC 9 (.slice ao items.length cp) (txtV items) :: cs) (List.perm_middle (l₁ := [rowG (.slice ga gs.length gc) gs, mapC b n D, blkC P (flat qs) 159])))
  clear A2
  generalize hST : addS (some []) (enc 9 nm.size ++ nm.data.toList ++ enc 9 first ++ itemsB items ++ enc 9 gs.length) = st at A
  have LS : Hid (lenS st ≤ 1099517000010) := by
    have h1 := L4.out
    have h2 := enc_len 9 gs.length
    rw [lenS0] at h1
    show _ ≤ _
    rw [← hST, lenS0, List.length_append]
    omega
  have HST := hid hST
  clear hST L2 L3 L4
  go_wp2
  go_loopw [37] (fun jv wr => ∃ (k : Nat) (v' : Value), jv = .int .i64 (k : Int) ∧ k ≤ gs.length ∧ Hid (All (wrC B v' (addS st (groupsB (gs.take k))) :: rowG (.slice ga gs.length gc) gs :: mapC b n D :: blkC P (flat qs) 159 :: ownC 9 (.slice ao items.length cp) (txtV items) :: cs) wr)) (fun jv _ => gs.length - (intOf jv).toNat)
  case atStart => exact ⟨0, v5, rfl, by omega, by simpa [groupsB, addS_nil] using A⟩
  case round =>
    obtain ⟨k, v', rfl, hk, AR⟩ := hrel
    clear A
    by_cases hlt : k < gs.length
    · obtain ⟨g, ea, hg, e0, e1⟩ := rowG_at (AR.out.2.2.1.2.1 : wr.ownsRow 0 214 2 (.slice ga gs.length gc) gs.length (cellsG gs)) (k := k) hlt
      subst ea
      obtain ⟨hx, c0, hc0, hcb⟩ := HC.out gs[k] (List.getElem_mem hlt)
      have HT := hid (groupsB_take hlt)
      have LG : Hid ((groupsB (gs.take k)).length ≤ 12583200) := by
        have h1 := groupsB_len (gs := gs.take k) (fun g hg => (HC.out g (List.mem_of_mem_take hg)).1)
        have h2 : (gs.take k).length ≤ 12 := by
          have := hg12.out
          rw [List.length_take]; omega
        show _ ≤ _
        omega
      rw [hc0] at e1
      have hx0 : Hid (gs[k].1 = gs[k].1) := hid rfl
      generalize gs[k].1 = x0 at e0 hx HT
      rw [hc0] at HT
      clear hc0 hx0
      have AN := hid (AR.out.addBlk [encStr x0, .int .i64 (c0 : Int)] 214)
      clear AR
      go_wp2_with fail
      have A1 := hid (AN.out.swap)
      clear AN
      refine (textW A1.out (strB x0) (by
        have h1 := LS.out
        have h2 := LG.out
        have h3 := lenS_addS st (groupsB (gs.take k))
        have h4 : (strB x0).size = x0.length := by simp [strB, ByteArray.size]
        omega)).mono ?_
      rintro e w7 ⟨rfl, v7, A2⟩
      have A2 := hid A2
      clear A1
      have hb : w7.heap[wr.heap.size]? = some (.cells [encStr x0, .int .i64 (c0 : Int)].toArray 214 (0, 0)) := A2.out.blk mem2
      have d1 : w7.cell? ⟨wr.heap.size, 1, none⟩ = some (.int .i64 (c0 : Int)) := by rw [cell_at hb]; rfl
      clear hb
      have L7 : Hid (lenS (addS (addS st (groupsB (gs.take k))) (enc 9 (strB x0).size ++ (strB x0).data.toList)) ≤ 1099540000000) := by
        have h1 := LS.out
        have h2 := enc_len 9 (strB x0).size
        have h3 := lenS_addS (addS st (groupsB (gs.take k))) (enc 9 (strB x0).size ++ (strB x0).data.toList)
        rw [List.length_append, str_len] at h3
        have h4 : (strB x0).size = x0.length := by simp [strB, ByteArray.size]
        have h5 := lenS_addS st (groupsB (gs.take k))
        have h6 := LG.out
        show _ ≤ _
        omega
      go_wp2_with fail
      refine (natW A2.out c0 (by omega) (by have := L7.out; omega)).mono ?_
      rintro e w8 ⟨rfl, v8, A3⟩
      have A4 := hid (A3.swap.tail)
      clear A3 A2 d1 L7 e0 e1
      go_wp2
      go_roundw
      case rel =>
        refine ⟨k + 1, v8, congrArg (Value.int .i64) (wrapK k (by have := hg12.out; omega)), hlt, ?_⟩
        have e : addS (addS (addS st (groupsB (gs.take k))) (enc 9 (strB x0).size ++ (strB x0).data.toList)) (enc 9 c0) = addS st (groupsB (gs.take (k + 1))) := by
          rw [addS_addS, addS_addS]
          congr 1
          rw [HT.out]
          simp [strB, ByteArray.size]
        have h4 := A4.out
        rw [e] at h4
        exact h4
      case measure => exact measK hlt (by have := hg12.out; omega)
    · obtain rfl : k = gs.length := by omega
      have e : addS st (groupsB (gs.take gs.length)) = some (slotB nm first items gs) := by
        rw [← HST.out, addS_addS]
        simp [addS, slotB]
      rw [e] at AR
      have AR := hid AR.out
      have hlen : (slotB nm first items gs).length ≤ 1099530000000 := by
        have h1 := LS.out
        rw [← HST.out, lenS0] at h1
        have h2 := groupsB_len (gs := gs) (fun g hg => (HC.out g hg).1)
        have h3 := hg12.out
        have h4 : (slotB nm first items gs).length = (enc 9 nm.size ++ nm.data.toList ++ enc 9 first ++ itemsB items ++ enc 9 gs.length).length + (groupsB gs).length := by
          simp [slotB]; omega
        omega
      clear e
      go_wp2_with fail
      refine (doneW AR.out (by omega)).mono ?_
      rintro e w7 ⟨so, sc, rfl, A2⟩
      have A2 := hid A2
      clear AR
      go_wp2
      go_ret
      refine ⟨so, _, sc, rfl, ?_⟩
      have h1 := (A2.out.swap.tail).swap.tail
      refine h1.perm (List.Perm.cons _ ?_)
      refine List.Perm.trans (l₂ := blkC P (flat qs) 159 :: mapC b n D :: ownC 9 (.slice ao items.length cp) (txtV items) :: cs) (List.Perm.swap _ _ _) (List.Perm.cons _ (List.Perm.swap _ _ _))
end Go.Proofs.YtafickhhdemjnaaGreatDoor

namespace Go.Proofs.YtafickhhdemjnaaGreatDoor
open Go.RowKit
set_option linter.unusedVariables false

set_option maxHeartbeats 1600000 in
set_option maxRecDepth 1000000 in
/-- A slot that holds a queue. -/
theorem slot_gs {P i b n : Nat} {qs : List Qv} {nm : ByteArray} {first : Nat} {iv : Value} {items : List ByteArray} {D : DataW Unit} {cs : List Comp} {w : World} (h : All (blkC P (flat qs) 159 :: ownC 9 iv (txtV items) :: mapC b n D :: cs) w) (h8 : qs.length = 8) (hq : qs[i]? = some ⟨nm, first, iv, .map (some b)⟩)
    (hne : nm.size ≠ 0) (hnm : nm.size ≤ 1048576) (hfs : first < 1152921504606846976) (hit : bulkT items ≤ 1099511627776) (hil : items.length < 1048576) (hs4 : Maps.size D ≤ 12) {gs : List Grp} (hG : grS D = gs) (hgk : ∀ g ∈ gs, g.1.length ≤ 1048576 ∧ ∃ c : Nat, g.2 = (c : Int) ∧ c < 1152921504606846976) :
    Calls Tryz.prog 124 #[.pointer (some ⟨P, 0, none⟩), .int .i64 (i : Int)] w fun e w' => ∃ so sn sc, e = .returned (.slice so sn sc) ∧ All (ownC 5 (.slice so sn sc) (cellsB (slotB nm first items gs)) :: blkC P (flat qs) 159 :: ownC 9 iv (txtV items) :: mapC b n D :: cs) w' := by
  have hi8 : i < 8 := by have := (List.getElem?_eq_some_iff.1 hq).1; omega
  have HF := hid (isFree_any (h.q0 List.mem_cons_self hq))
  rw [nonempty nm hne] at HF
  have HB := hid (bytes_gs h hq hnm hfs hit hil hs4 hG hgk)
  have i1 : decide ((i : Int) < 0) = false := by simp
  have i2 : decide ((8 : Int) ≤ (i : Int)) = false := by simp; omega
  have i3 : (0 : Int) ≤ (i : Int) := by omega
  have i4 : (i : Int) < 8 := by omega
  clear h hq hs4 hG hgk
  go_enter Tryz.func124, Tryz.ntmps124
  go_wp2_with fail
  refine HF.out.mono ?_
  rintro e w1 ⟨rfl, rfl⟩
  go_wp2_with fail
  refine HB.out.mono ?_
  rintro e w2 ⟨so, sn, sc, rfl, A2⟩
  have A2 := hid A2
  clear HB HF
  go_wp2
  go_ret
  exact ⟨so, sn, sc, rfl, A2.out⟩

set_option maxHeartbeats 1600000 in
set_option maxRecDepth 1000000 in
/-- A slot that is free. -/
theorem slot_free {P i : Nat} {qs : List Qv} {q : Qv} {cs : List Comp} {w : World} (h : All (blkC P (flat qs) 159 :: cs) w) (h8 : qs.length = 8) (hq : qs[i]? = some q) (hne : q.nm.toList = []) :
    Calls Tryz.prog 124 #[.pointer (some ⟨P, 0, none⟩), .int .i64 (i : Int)] w fun e w' => e = .returned (.slice none 0 0) ∧ All (blkC P (flat qs) 159 :: cs) w' := by
  have hi8 : i < 8 := by have := (List.getElem?_eq_some_iff.1 hq).1; omega
  have HF := hid (isFree_any (h.q0 List.mem_cons_self hq))
  rw [hne] at HF
  have HA := hid h
  have i1 : decide ((i : Int) < 0) = false := by simp
  have i2 : decide ((8 : Int) ≤ (i : Int)) = false := by simp; omega
  have i3 : (0 : Int) ≤ (i : Int) := by omega
  have i4 : (i : Int) < 8 := by omega
  clear h hq hne
  go_enter Tryz.func124, Tryz.ntmps124
  go_wp2_with fail
  refine HF.out.mono ?_
  rintro e w1 ⟨rfl, rfl⟩
  go_wp2
  go_ret
  exact ⟨rfl, HA.out⟩
end Go.Proofs.YtafickhhdemjnaaGreatDoor

namespace Go.Proofs.YtafickhhdemjnaaGreatDoor
open Go.RowKit
set_option linter.unusedVariables false

theorem u8_inj {a b : Nat} (ha : a < 256) (hb : b < 256) (h : UInt8.ofNat a = UInt8.ofNat b) : a = b := by
  have := congrArg UInt8.toNat h
  simp at this
  omega
/-- A number's bytes end where they end. -/
theorem enc_pre (f : Nat) : ∀ {a b : Nat} {r r' : List UInt8}, a < 128 ^ (f + 1) → b < 128 ^ (f + 1) → enc f a ++ r = enc f b ++ r' → a = b ∧ r = r' := by
  induction f with
  | zero =>
    intro a b r r' ha hb h
    simp only [enc, List.cons_append, List.nil_append, List.cons.injEq] at h
    exact ⟨u8_inj (by omega) (by omega) h.1, h.2⟩
  | succ f ih =>
    intro a b r r' ha hb h
    have hp : 128 ^ (f + 1 + 1) = 128 ^ (f + 1) * 128 := by rw [Nat.pow_succ]
    rw [hp] at ha hb
    by_cases h1 : a < 128
    · by_cases h2 : b < 128
      · rw [enc_small _ _ h1, enc_small _ _ h2] at h
        simp only [List.cons_append, List.nil_append, List.cons.injEq] at h
        exact ⟨u8_inj (by omega) (by omega) h.1, h.2⟩
      · rw [enc_small _ _ h1, enc_step _ _ h2] at h
        simp only [List.cons_append, List.nil_append, List.cons.injEq] at h
        have := u8_inj (by omega) (by omega) h.1
        omega
    · by_cases h2 : b < 128
      · rw [enc_small _ _ h2, enc_step _ _ h1] at h
        simp only [List.cons_append, List.nil_append, List.cons.injEq] at h
        have := u8_inj (by omega) (by omega) h.1
        omega
      · rw [enc_step _ _ h1, enc_step _ _ h2] at h
        simp only [List.cons_append, List.cons.injEq] at h
        have e1 := u8_inj (by omega) (by omega) h.1
        obtain ⟨e2, e3⟩ := ih (a := a / 128) (b := b / 128) (by omega) (by omega) h.2
        exact ⟨by omega, e3⟩
theorem enc9 {a b : Nat} {r r' : List UInt8} (ha : a < 1152921504606846976) (hb : b < 1152921504606846976) (h : enc 9 a ++ r = enc 9 b ++ r') : a = b ∧ r = r' :=
  enc_pre 9 (Nat.lt_of_lt_of_le ha (by decide)) (Nat.lt_of_lt_of_le hb (by decide)) h
theorem list_pre {l l' r r' : List UInt8} (ha : l.length < 1152921504606846976) (hb : l'.length < 1152921504606846976) (h : (enc 9 l.length ++ l) ++ r = (enc 9 l'.length ++ l') ++ r') : l = l' ∧ r = r' := by
  rw [List.append_assoc, List.append_assoc] at h
  obtain ⟨e1, e2⟩ := enc9 ha hb h
  exact List.append_inj e2 e1
theorem text_pre {t t' : ByteArray} {r r' : List UInt8} (ha : t.size < 1152921504606846976) (hb : t'.size < 1152921504606846976) (h : (enc 9 t.size ++ t.data.toList) ++ r = (enc 9 t'.size ++ t'.data.toList) ++ r') : t = t' ∧ r = r' := by
  rw [← str_len t, ← str_len t'] at h
  obtain ⟨e1, e2⟩ := list_pre (by rw [str_len]; exact ha) (by rw [str_len]; exact hb) h
  refine ⟨?_, e2⟩
  cases t; cases t'
  simpa using e1
theorem texts_pre : ∀ {l l' : List ByteArray} {r r' : List UInt8}, l.length = l'.length → (∀ t ∈ l, t.size ≤ 64) → (∀ t ∈ l', t.size ≤ 64) → textsB l ++ r = textsB l' ++ r' → l = l' ∧ r = r'
  | [], [], r, r', _, _, _, h => ⟨rfl, by simpa [textsB] using h⟩
  | [], _ :: _, _, _, hl, _, _, _ => by simp at hl
  | _ :: _, [], _, _, hl, _, _, _ => by simp at hl
  | t :: l, t' :: l', r, r', hl, h1, h2, h => by
    have e1 : textsB (t :: l) ++ r = (enc 9 t.size ++ t.data.toList) ++ (textsB l ++ r) := by simp [textsB]
    have e2 : textsB (t' :: l') ++ r' = (enc 9 t'.size ++ t'.data.toList) ++ (textsB l' ++ r') := by simp [textsB]
    rw [e1, e2] at h
    have b1 := h1 t (by simp)
    have b2 := h2 t' (by simp)
    obtain ⟨rfl, h3⟩ := text_pre (by omega) (by omega) h
    obtain ⟨rfl, h4⟩ := texts_pre (by simpa using hl) (fun x hx => h1 x (by simp [hx])) (fun x hx => h2 x (by simp [hx])) h3
    exact ⟨rfl, h4⟩
/-- What holds of groups. -/
def OkG (gs : List Grp) : Prop := ∀ g ∈ gs, 0 < g.1.length ∧ g.1.length ≤ 16 ∧ ∃ c : Nat, g.2 = (c : Int) ∧ c ≤ 1099511627776
theorem groups_pre : ∀ {l l' : List Grp}, l.length = l'.length → OkG l → OkG l' → groupsB l = groupsB l' → l = l'
  | [], [], _, _, _, h => rfl
  | [], _ :: _, hl, _, _, _ => by simp at hl
  | _ :: _, [], hl, _, _, _ => by simp at hl
  | (x, c) :: l, (x', c') :: l', hl, h1, h2, h => by
    have e1 : groupsB ((x, c) :: l) = (enc 9 x.length ++ x) ++ (enc 9 c.toNat ++ groupsB l) := by simp [groupsB]
    have e2 : groupsB ((x', c') :: l') = (enc 9 x'.length ++ x') ++ (enc 9 c'.toNat ++ groupsB l') := by simp [groupsB]
    rw [e1, e2] at h
    obtain ⟨_, a2, n, a3, a4⟩ := h1 (x, c) (by simp)
    obtain ⟨_, b2, n', b3, b4⟩ := h2 (x', c') (by simp)
    simp only at a2 a3 b2 b3
    subst a3 b3
    obtain ⟨rfl, h3⟩ := list_pre (by omega) (by omega) h
    simp only [Int.toNat_natCast] at h3
    obtain ⟨rfl, h4⟩ := enc9 (by omega) (by omega) h3
    obtain rfl := groups_pre (by simpa using hl) (fun g hg => h1 g (by simp [hg])) (fun g hg => h2 g (by simp [hg])) h4
    rfl
/-- A slot's bytes tell the queue. -/
theorem slot_inj {nm nm' : ByteArray} {f f' : Nat} {l l' : List ByteArray} {gs gs' : List Grp} (a1 : nm.size ≤ 16) (a2 : nm'.size ≤ 16) (b1 : f ≤ 1099511627776) (b2 : f' ≤ 1099511627776) (c1 : l.length ≤ 32) (c2 : l'.length ≤ 32) (d1 : ∀ t ∈ l, t.size ≤ 64) (d2 : ∀ t ∈ l', t.size ≤ 64) (e1 : gs.length ≤ 12) (e2 : gs'.length ≤ 12) (g1 : OkG gs) (g2 : OkG gs') (h : slotB nm f l gs = slotB nm' f' l' gs') : nm = nm' ∧ f = f' ∧ l = l' ∧ gs = gs' := by
  unfold slotB at h
  obtain ⟨x1, h2⟩ := text_pre (t := nm) (t' := nm') (by omega) (by omega) h
  obtain ⟨x2, h3⟩ := enc9 (a := f) (b := f') (by omega) (by omega) h2
  unfold itemsB at h3
  rw [List.append_assoc, List.append_assoc] at h3
  obtain ⟨hl, h4⟩ := enc9 (a := l.length) (b := l'.length) (by omega) (by omega) h3
  obtain ⟨x3, h5⟩ := texts_pre hl d1 d2 h4
  obtain ⟨hl2, h6⟩ := enc9 (a := gs.length) (b := gs'.length) (by omega) (by omega) h5
  exact ⟨x1, x2, x3, groups_pre hl2 g1 g2 h6⟩

theorem enc1 {n : Nat} (h : n < 128) : (enc 9 n).length = 1 := by rw [enc_small _ _ h]; rfl
theorem enc_bits (f : Nat) : ∀ (j n : Nat), n < 128 ^ (j + 1) → (enc f n).length ≤ j + 1 := by
  induction f with
  | zero => intro j n _; simp [enc]
  | succ f ih =>
    intro j n hn
    by_cases h : n < 128
    · rw [enc_small _ _ h]; simp
    · rw [enc_step _ _ h]
      cases j with
      | zero => simp at hn; omega
      | succ j =>
        have hp : 128 ^ (j + 1 + 1) = 128 ^ (j + 1) * 128 := by rw [Nat.pow_succ]
        have := ih j (n / 128) (by rw [hp] at hn; omega)
        simp only [List.length_cons]
        omega
theorem enc6 {n : Nat} (h : n ≤ 1099511627776) : (enc 9 n).length ≤ 6 := enc_bits 9 5 n (Nat.lt_of_le_of_lt h (by decide))
theorem texts_len {l : List ByteArray} (d : ∀ t ∈ l, t.size ≤ 64) : (textsB l).length ≤ l.length * 65 := by
  induction l with
  | nil => simp [textsB]
  | cons t l ih =>
    have h1 := ih (fun x hx => d x (by simp [hx]))
    have h2 := d t (by simp)
    have h3 := enc1 (n := t.size) (by omega)
    have e : textsB (t :: l) = (enc 9 t.size ++ t.data.toList) ++ textsB l := by simp [textsB]
    rw [e, List.length_append, List.length_append, h3, str_len, List.length_cons]
    omega
theorem groups_len {gs : List Grp} (g : OkG gs) : (groupsB gs).length ≤ gs.length * 23 := by
  induction gs with
  | nil => simp [groupsB]
  | cons x gs ih =>
    have h1 := ih (fun y hy => g y (by simp [hy]))
    obtain ⟨_, h2, c, hc, h4⟩ := g x (by simp)
    have h3 := enc1 (n := x.1.length) (by omega)
    have h5 := enc6 h4
    have e : groupsB (x :: gs) = ((enc 9 x.1.length ++ x.1) ++ enc 9 x.2.toNat) ++ groupsB gs := by simp [groupsB]
    have hn : x.2.toNat = c := by rw [hc]; simp
    rw [e, hn, List.length_append, List.length_append, List.length_append, h3, List.length_cons]
    omega
theorem slot_len {nm : ByteArray} {f : Nat} {l : List ByteArray} {gs : List Grp} (a : nm.size ≤ 16) (b : f ≤ 1099511627776) (c : l.length ≤ 32) (d : ∀ t ∈ l, t.size ≤ 64) (e : gs.length ≤ 4) (g : OkG gs) : (slotB nm f l gs).length ≤ 2197 := by
  have h1 := enc1 (n := nm.size) (by omega)
  have h2 := enc6 b
  have h3 := enc1 (n := l.length) (by omega)
  have h4 := texts_len d
  have h5 := enc1 (n := gs.length) (by omega)
  have h6 := groups_len g
  simp only [slotB, itemsB, List.length_append, h1, h3, h5, str_len]
  omega
theorem slot_pos {nm : ByteArray} {f : Nat} {l : List ByteArray} {gs : List Grp} (a : nm.size ≤ 16) : slotB nm f l gs ≠ [] := by
  intro h
  have h1 := enc1 (n := nm.size) (by omega)
  have := congrArg List.length h
  simp only [slotB, List.length_append, h1, List.length_nil] at this
  omega
end Go.Proofs.YtafickhhdemjnaaGreatDoor

namespace Go.Proofs.YtafickhhdemjnaaGreatDoor
open Go.RowKit
set_option linter.unusedVariables false

theorem mem_keys {D : DataW Unit} {w : World} {b n : Nat} (hown : w.ownsMap Tryz.prog 9 rE b n D) {x : List UInt8} : x ∈ strKeys D ↔ Maps.has D (.string x) = true := by
  obtain ⟨es, rfl, hko⟩ := hown.keysOf
  have hk : ∀ p ∈ es, ∃ x, p.1 = .string x := fun p hp => by obtain ⟨v, hv⟩ := hko p hp; obtain ⟨x, _, hx, _⟩ := Maps.keyOf_str Tryz.underlying9 hv; exact ⟨x, hx⟩
  rw [Maps.has_eq, List.any_eq_true]
  show x ∈ es.map (fun p => strOf p.1) ↔ _
  rw [List.mem_map]
  constructor
  · rintro ⟨p, hp, rfl⟩
    obtain ⟨a, ha⟩ := hk p hp
    exact ⟨p, hp, by rw [ha]; simp [Lit.sameKey, strOf]⟩
  · rintro ⟨p, hp, hs⟩
    obtain ⟨a, ha⟩ := hk p hp
    rw [ha] at hs
    exact ⟨p, hp, by rw [ha]; simpa [Lit.sameKey, strOf] using hs⟩
theorem mem_grS {D : DataW Unit} {w : World} {b n : Nat} (hown : w.ownsMap Tryz.prog 9 rE b n D) {g : Grp} : g ∈ grS D ↔ Maps.has D (.string g.1) = true ∧ g.2 = leftD D (.string g.1) := by
  rw [grS, List.mem_map, ← mem_keys hown]
  constructor
  · rintro ⟨x, hx, rfl⟩
    exact ⟨by simpa using hx, rfl⟩
  · rintro ⟨h1, h2⟩
    exact ⟨g.1, by simpa using h1, by rw [← h2]⟩
theorem OkQ.okG {N : Nat} {q : Qs} (h : OkQ N q) {w : World} {b n : Nat} (hown : w.ownsMap Tryz.prog 9 rE b n q.D) : OkG (grS q.D) := by
  intro g hg
  obtain ⟨h1, h2⟩ := (mem_grS hown).1 hg
  obtain ⟨a, b, c, hc, d, e⟩ := h.gk _ h1
  exact ⟨a, b, c, by rw [h2, hc], by have := h.fin; omega⟩
theorem bulk_small {l : List ByteArray} (d : ∀ t ∈ l, t.size ≤ 64) : bulkT l ≤ l.length * 74 := by
  induction l with
  | nil => simp [bulkT]
  | cons t l ih =>
    have h1 := ih (fun x hx => d x (by simp [hx]))
    have h2 := d t (by simp)
    have e : bulkT (t :: l) = t.size + 10 + bulkT l := by simp [bulkT]
    rw [e, List.length_cons]
    omega
/-- A slot's bytes. -/
def slB : Option Qs → List UInt8
  | none => []
  | some q => slotB q.nm q.first q.items (grS q.D)

/-- Slot, at any state. -/
theorem Slot_st {N P i : Nat} {S : St} (hS : OkS N S) {s : Option Qs} (hs : S[i]? = some s) {cs : List Comp} {w : World} (h : All (shL P S ++ cs) w) :
    Calls Tryz.prog 124 #[.pointer (some ⟨P, 0, none⟩), .int .i64 (i : Int)] w fun e w' => ∃ so sc, e = .returned (.slice so (slB s).length sc) ∧ All (ownC 5 (.slice so (slB s).length sc) (cellsB (slB s)) :: (shL P S ++ cs)) w' := by
  have h8 : (stV S).length = 8 := by rw [stV_len]; exact hS.len
  cases s with
  | none =>
    refine (slot_free (cs := S.flatMap slC ++ cs) (by simpa [shL] using h) h8 (stV_at hs) (by rw [empty_iff]; rfl)).mono ?_
    rintro e w' ⟨rfl, A⟩
    refine ⟨none, 0, rfl, ?_⟩
    have A2 : All (shL P S ++ cs) w' := by simpa [shL] using A
    exact A2.addNil (e := 5)
  | some q =>
    have ho := hS.each i q hs
    have A := h.shOut hs
    have hm : w.ownsMap Tryz.prog 9 rE q.b q.n q.D := A.2.2.2.2.1.2.1
    have hg := ho.okG hm
    have hb := bulk_small ho.small
    have h1 := ho.len
    have h2 := ho.fin
    have h3 := ho.nm0
    have h4 := ho.nm16
    have h5 := ho.gs
    refine (slot_gs A h8 (stV_at hs) (by omega) (by omega) (by omega) (by omega) (by omega) (by omega) rfl (fun g hgm => ?_)).mono ?_
    · obtain ⟨_, a, c, hc, d⟩ := hg g hgm
      exact ⟨by omega, c, hc, by omega⟩
    · rintro e w' ⟨so, sn, sc, rfl, A2⟩
      have hlen : sn = (slB (some q)).length := by
        have := (owns_len (A2.1.2.1 : w'.ownsRow 0 5 1 (.slice so sn sc) (cellsB (slotB q.nm q.first q.items (grS q.D))).length (cellsB (slotB q.nm q.first q.items (grS q.D))))).1
        rw [this]; simp [cellsB, slB]
      subst hlen
      refine ⟨so, sc, rfl, ?_⟩
      have A3 : All (blkC P (flat (stV S)) 159 :: ownC 9 q.iv (txtV q.items) :: mapC q.b q.n q.D :: (restC S i ++ (ownC 5 (.slice so (slB (some q)).length sc) (cellsB (slB (some q))) :: cs))) w' := by
        refine A2.perm ?_
        have := List.perm_middle (a := ownC 5 (.slice so (slB (some q)).length sc) (cellsB (slB (some q)))) (l₁ := blkC P (flat (stV S)) 159 :: ownC 9 q.iv (txtV q.items) :: mapC q.b q.n q.D :: restC S i) (l₂ := cs)
        simpa [slB] using this.symm
      refine (A3.shSame hs).perm ?_
      exact List.perm_middle
end Go.Proofs.YtafickhhdemjnaaGreatDoor

namespace Go.Proofs.YtafickhhdemjnaaGreatDoor
open Go.RowKit
set_option linter.unusedVariables false

theorem Tryz.info76 : (Tryz.prog.info? 76).map (fun i => (i.zero, i.size, i.bytes)) = some (some (.slice none 0 0), 1, 24) := by kernel_rfl
theorem Tryz.und30 : Tryz.prog.underlying 30 = some (.slice 76) := by kernel_rfl

/-- Lists of bytes, each of its own. -/
abbrev BL := List (Value × List UInt8)
def blC (ls : BL) : List Comp := ls.map fun p => ownC 5 p.1 (cellsB p.2)
/-- A list of such lists. -/
def slsL (v : Value) (ls : BL) : List Comp := ownC 76 v (ls.map Prod.fst) :: blC ls

theorem All.addMadeL {cs : List Comp} {w : World} (h : All cs w) : All (ownC 76 (.slice (some ⟨w.heap.size, 0, none⟩) 0 0) [] :: cs) (w.alloc (.cells #[] 76)) := by
  refine h.addOwn (ba w _) ?_
  have := World.ownsRow_made (base := w.heap.size) (e := 76) (size := 1) w #[] 0 (Nat.le_refl _) (by unfold maxLen; omega) rfl
  exact this
theorem permA {o : Comp} {bl sh cs : List Comp} : (o :: (bl ++ (sh ++ cs))).Perm (sh ++ (o :: (bl ++ cs))) := by
  have := List.perm_append_comm_assoc (o :: bl) sh cs
  simpa using this
theorem permB {x o : Comp} {bl sh cs : List Comp} : (x :: (sh ++ (o :: (bl ++ cs)))).Perm (o :: ((bl ++ [x]) ++ (sh ++ cs))) := by
  refine (List.Perm.cons x permA.symm).trans ?_
  refine (List.Perm.swap _ _ _).trans (List.Perm.cons o ?_)
  have := (List.perm_middle (a := x) (l₁ := bl) (l₂ := sh ++ cs)).symm
  simpa using this

end Go.Proofs.YtafickhhdemjnaaGreatDoor

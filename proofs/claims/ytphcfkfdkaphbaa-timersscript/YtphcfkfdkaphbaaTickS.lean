import Derived.Test.YtphcfkfdkaphbaaSortS
namespace Go.Proofs.Ytphcfkfdkaphbaa
open Go.RowKit Go.Sort
open Go.Maps (Keyed)
set_option linter.unusedVariables false

theorem Try.info9 : (Try.prog.info? 9).map (fun i => (i.zero, i.size, i.bytes)) = some (some (.string ⟨#[]⟩), 1, 16) := by kernel_rfl

theorem keyS_inv {key : Value} {kl : Lit} (h : keyOf Try.prog 9 key = some kl) : ∃ x : List UInt8, key = encStr x ∧ kl = .string x ∧ x.length ≤ maxLen := by
  cases key <;> simp [keyOf, Try.underlying9, mapKey] at h
  rename_i s
  obtain ⟨h1, rfl⟩ := h
  exact ⟨s.data.toList, rfl, rfl, h1⟩

theorem invK9 : ∀ key kl, keyOf Try.prog 9 key = some kl → ∃ x, key = encStr x := fun key kl hk => by
  obtain ⟨x, hx, _⟩ := keyS_inv hk
  exact ⟨x, hx⟩
theorem invV3 : ∀ (v : Value) (y : DataW Unit × List MemPlace), rE v = some y → ∃ c, v = Value.int .i64 c := fun v y hv => by
  obtain ⟨c, rfl, _⟩ := plainElem_int_inv Try.underlying3 hv
  exact ⟨c, rfl⟩

set_option maxHeartbeats 6400000 in
set_option maxRecDepth 1000000 in
theorem TickS {P b n : Nat} {D : DataW Unit} {cs : List Comp} {w : World} (h : All (tabS P b n D :: cs) w) (hn : n ≤ 1048576) :
    Calls Try.prog 11 #[.pointer (some ⟨P, 0, none⟩)] w fun e w' => ∃ (v : Value) (ss : List (List UInt8)) (D' : DataW Unit), e = .returned v ∧ TickR D (fun _ => false) D' (ss.map Lit.string) ∧ All (ownC 9 v ((ss.mergeSort fun x y => decide (x ≤ y)).map encStr) :: tabS P b n D' :: cs) w' := by
  obtain ⟨i9, hi9, hz0, hz1, hz2⟩ := info_parts Try.info9
  have hb : w.heap[P]? = some (.cells #[.map (some b)] 92 (0, 0)) := h.1.2.1.1
  have c0 : w.cell? ⟨P, 0, none⟩ = some (.map (some b)) := by rw [cell_at hb]; rfl
  have HO := h.1.2.1.2
  have hsz := HO.size_le
  have H := hid h
  clear h hb
  go_enter Try.func11, Try.ntmps11
  go_wp2_with (first | (at_range; refine wpList_range_own _ rfl _ 90 rfl 9 3 lawS Try.und90 _ b n D rfl HO ?_; intro w0 hrg0 hg0 hs0) | go_in)
  have A0 := hid ((H.out.it_start hg0 hs0 hrg0).addNil (e := 9))
  have T0 := hid (TickR.start D)
  clear H HO hrg0 hg0 hs0 c0
  generalize w.heap.size = r at *
  go_frame
  go_loopw [3] (fun ov wr => ∃ (left : Lit → Bool) (cnt : Nat) (Dr : DataW Unit) (ss : List (List UInt8)), Hid (TickR D left Dr (ss.map Lit.string)) ∧ Hid (All (ownC 9 ov (ss.map encStr) :: itC 9 b r n Dr left cnt :: blkC P [.map (some b)] 92 :: cs) wr)) (fun _ wr => wr.rangeLeft b r)
  case atStart => exact ⟨_, _, D, [], T0, A0⟩
  case round =>
    obtain ⟨left, cnt, Dr, ss, TR, AR⟩ := hrel
    clear T0 A0
    have hrg : wr.ranges Try.prog 9 rE b r n Dr left cnt := AR.out.2.2.1.2.1
    have hsl : ss.length ≤ 1048576 := by
      have := TR.out.size
      simp at this
      omega
    obtain ⟨oa, oc, hoe⟩ := owns_form (AR.out.1.2.1 : wr.ownsRow 0 9 1 _ (ss.map encStr).length (ss.map encStr))
    rw [List.length_map] at hoe
    subst hoe
    have HRG := hid hrg
    go_wp2_with (at_next; refine wpList_next_ranges _ rfl _ rfl 9 lawS rE encStr (Value.int .i64) invK9 invV3 b r n _ _ _ rfl hrg ?_ ?_)
    · intro hc0 hl0
      have hle : left = fun _ => false := funext hl0
      subst hle
      clear hc0 hl0 hrg HRG
      go_wp2_with fail
      refine (sort_own AR.out hsl).mono ?_
      rintro e w2 ⟨rfl, hA2⟩
      have A2 := hid hA2
      clear hA2 AR
      go_wp2
      go_ret
      refine ⟨_, ss, Dr, rfl, TR.out, ?_⟩
      have h1 : All (itC 9 b r n Dr (fun _ => false) cnt :: blkC P [.map (some b)] 92 :: ownC 9 (.slice oa ss.length oc) ((ss.mergeSort fun x y => decide (x ≤ y)).map encStr) :: cs) w2 := A2.out.perm (List.perm_middle (a := ownC 9 (.slice oa ss.length oc) ((ss.mergeSort fun x y => decide (x ≤ y)).map encStr)) (l₁ := [itC 9 b r n Dr (fun _ => false) cnt, blkC P [.map (some b)] 92]) (l₂ := cs)).symm
      exact h1.it_end.swap
    · intro x c kl yd yp w1 cnt1 hkey hlk hv hat hrg1 hlt hg1 hs1 hen
      obtain ⟨x', ex, rfl, hxl⟩ := keyS_inv hkey
      obtain rfl : x = x' := by simpa [encStr] using ex
      obtain ⟨c', ec, ey, hwc⟩ := plainElem_int_inv Try.underlying3 hv
      cases ec
      simp only [Prod.mk.injEq] at ey
      have hkl : WideAt.IsKeyLit (.string x) := lawS.key hkey
      have hhas : Maps.has Dr (.string x) = true := by rw [TR.out.has, if_pos hlk]; exact TR.out.lt _ hlk
      have hcv : c = leftD D (.string x) := by
        have h1 := TR.out.val _ hhas
        rw [if_pos hlk] at h1
        rw [← h1]
        unfold leftD
        rw [hat, ey.1]
      have htd : Maps.Tidy Dr := hrg.owns.tidy lawS
      have A1 := hid (AR.out.swap.it_turn (Or.inr rfl) hg1 hrg1)
      have c1 : w1.cell? ⟨P, 0, none⟩ = some (.map (some b)) := by
        have hbk : w1.heap[P]? = some (.cells #[.map (some b)] 92 (0, 0)) := A1.out.2.2.2.2.1.2.1
        rw [cell_at hbk]; rfl
      have hmx : n < maxLen := by unfold maxLen; omega
      have HTD := hid htd
      have HKL := hid hkl
      have HLK := hid hlk
      have HCV := hid hcv
      clear ex hs1 hg1 AR hrg hkl hat hv ey htd hlk hcv
      by_cases hc1 : 1 < c
      · have hwc2 : (Lit.int .i64 (c - 1)).wf = true := WalkArith.wf_i64 (by
          have : -9223372036854775808 ≤ c ∧ c ≤ 9223372036854775807 := by simpa [Lit.wf, IntKind.min, IntKind.max, IntKind.signed, IntKind.bits] using hwc
          omega)
        have hwr : IntKind.i64.wrap (c - 1) = c - 1 := by
          have : -9223372036854775808 ≤ c ∧ c ≤ 9223372036854775807 := by simpa [Lit.wf, IntKind.min, IntKind.max, IntKind.signed, IntKind.bits] using hwc
          simp [IntKind.wrap, IntKind.bits, IntKind.signed]; omega
        have hwr2 : wrap64 (c - 1) = c - 1 := by
          have : -9223372036854775808 ≤ c ∧ c ≤ 9223372036854775807 := by simpa [Lit.wf, IntKind.min, IntKind.max, IntKind.signed, IntKind.bits] using hwc
          unfold wrap64; omega
        clear hwc
        go_wp2_with (at_mapUpdate; refine wpList_store_ranges _ rfl _ _ _ 90 rfl 9 3 lawS Try.und90 rE b r n Dr _ cnt1 rfl hrg1 hmx _ _ (.string x) rfl rfl hkey _ [] (plainElem_int Try.underlying3 hwc2) hhas ?_; intro w2 hrg2 hg2)
        have A2 := hid (A1.out.it_turn (Or.inl rfl) hg2 hrg2).swap
        have T2 := hid (TR.out.less HTD.out HKL.out HLK.out (by rw [← HCV.out]; exact hc1))
        rw [← HCV.out] at T2
        have M2 := hid (show w2.rangeLeft b r < wr.rangeLeft b r from by rw [hrg2.left_eq, HRG.out.left_eq]; exact hlt)
        clear hg2 hrg2 A1
        go_frame
        refine ⟨?_, M2.out⟩
        (repeat apply Exists.intro)
        exact ⟨⟨_, _, _, ss, T2, A2⟩, rfl⟩
      · have hlc := hid hlt
        clear hwc hlt
        have hml : (ss.map encStr).length ≤ 1048576 := by simpa using hsl
        have hcc : leftD D (.string x) ≤ 1 := by rw [← HCV.out]; omega
        have T2 := hid (TR.out.out HTD.out HKL.out HLK.out hcc)
        rw [show (ss.map Lit.string ++ [Lit.string x]) = (ss ++ [x]).map Lit.string by simp] at T2
        clear hcc
        go_wp2_with (first | (at_delete; refine wpList_delete_ranges _ rfl _ _ 90 9 rfl 3 lawS Try.und90 rE b r n Dr _ cnt1 rfl hrg1 _ (.string x) rfl hkey ?_; intro w2 cnt2 hrg2 hle hturn; rw [Maps.strike_twice] at hrg2; have A2 := hid (A1.out.it_turn (Or.inl rfl) hturn.grown hrg2).swap; have hrow : w2.ownsRow 0 9 1 (.slice oa ss.length oc) (ss.map encStr).length (ss.map encStr) := A2.out.1.2.1; have HLE := hid hle; clear hle hturn A1 hrg1 hrg2) | (at_builtin; refine wpList_append_own_at _ rfl (.tmp 30) (.tmp 32) 37 rfl 0 9 i9 (.string ⟨#[]⟩) 1 16 Try.underlying37 hi9 hz0 hz1 hz2 rfl (by decide) _ _ _ rfl (hrow.alloc _) ⟨w2.heap.size, 0, none⟩ 1 1 [encStr x] rfl rfl (cell_one_new _ _ _) (fun u hu => by simp at hu; subst hu; rfl) (by unfold maxLen; omega) (by omega) (by omega) ?_; intro ov' w3 hown hgr hnil hat'))
        have A3 := hid ((A2.out.alloc (.cells #[encStr x] 9)).ownGrow (vs' := (ss ++ [x]).map encStr) (by rw [List.map_append, List.length_append]; exact hown) hgr (show ov'.ownBlock = (Value.slice oa ss.length oc).ownBlock ∨ ov'.ownBlock = some (w2.alloc (.cells #[encStr x] 9)).heap.size from hat'))
        have hrg3 : w3.ranges Try.prog 9 rE b r n (Dr.del (.string x)) (fun z => left z && !z.sameKey (.string x)) cnt2 := A3.out.2.2.1.2.1
        have M3 := hid (show w3.rangeLeft b r < wr.rangeLeft b r from by rw [hrg3.left_eq, HRG.out.left_eq]; exact Nat.lt_of_le_of_lt HLE.out hlc.out)
        clear hown hgr hnil hat' hrow A2 hrg3
        go_wp2
        go_roundw
        case rel => exact ⟨_, _, _, ss ++ [x], T2, A3⟩
        case measure => exact M3.out
end Go.Proofs.Ytphcfkfdkaphbaa

import Derived.Test.YtkcepkehgkkkbaaGreatDoorColl
namespace Go.Proofs.YtkcepkehgkkkbaaGreatDoor
open Go.RowKit
open Go.Maps (Keyed)
set_option linter.unusedVariables false

theorem Tryz.info164 : (Tryz.prog.info? 164).map (fun i => (i.zero, i.size, i.bytes)) = some (some (.agg #[.string ⟨#[]⟩, .int .i64 0]), 2, 24) := by kernel_rfl
theorem Tryz.und124 : Tryz.prog.underlying 124 = some (.slice 164) := by kernel_rfl

theorem keyS_inv {key : Value} {kl : Lit} (h : keyOf Tryz.prog 9 key = some kl) : ∃ x : List UInt8, key = encStr x ∧ kl = .string x ∧ x.length ≤ maxLen := by
  cases key <;> simp [keyOf, Tryz.underlying9, mapKey] at h
  rename_i s
  obtain ⟨h1, rfl⟩ := h
  exact ⟨s.data.toList, by simp [encStr, strB], rfl, h1⟩
theorem invK9 : ∀ key kl, keyOf Tryz.prog 9 key = some kl → ∃ x, key = encStr x := fun key kl hk => by
  obtain ⟨x, hx, _⟩ := keyS_inv hk
  exact ⟨x, hx⟩
theorem invV3 : ∀ (v : Value) (y : DataW Unit × List MemPlace), rE v = some y → ∃ c, v = Value.int .i64 c := fun v y hv => by
  obtain ⟨c, rfl, _⟩ := plainElem_int_inv Tryz.underlying3 hv
  exact ⟨c, rfl⟩
theorem strB_inj {x y : List UInt8} (h : strB x = strB y) : x = y := by
  have := congrArg (fun b : ByteArray => b.data.toList) h
  simpa [strB] using this

theorem news_new (w : World) (cs : Array Value) (t : TypeId) (j : Nat) (u : Value) (hu : cs.toList[j]? = some u) : (w.alloc (.cells cs t)).cell? ((⟨w.heap.size, 0, none⟩ : Addr).add j) = some u := by
  have hadd : (⟨w.heap.size, 0, none⟩ : Addr).add j = ⟨w.heap.size, j, none⟩ := by unfold Addr.add; split <;> simp_all
  rw [hadd, cell_at (heap_alloc_new w _)]
  simpa using hu

set_option maxHeartbeats 6400000 in
set_option maxRecDepth 1000000 in
theorem byName_one {P i b n : Nat} {qs : List Qv} {q : Qv} {D : DataW Unit} {cs : List Comp} {w : World} (h : All (mapC b n D :: blkC P (flat qs) 122 :: cs) w) (hq : qs[i]? = some q) (hgv : q.gv = .map (some b)) (hn : n ≤ 1048576) {x0 : List UInt8} (hD : ∀ x, Maps.has D (.string x) = true ↔ x = x0) :
    Calls Tryz.prog 115 #[.pointer (some ⟨P, i * 4, none⟩)] w fun e w' => ∃ v, e = .returned v ∧ All (rowG v [(x0, leftD D (.string x0))] :: mapC b n D :: blkC P (flat qs) 122 :: cs) w' := by
  obtain ⟨i0, hi, hz0, hz1, hz2⟩ := info_parts Tryz.info164
  have c0 := h.q3 mem2 hq
  rw [hgv] at c0
  have HO : w.ownsMap Tryz.prog 9 rE b n D := h.1.2.1
  have hsz := HO.size_le
  have H := hid h
  have HD := hid hD
  clear h hq hgv hD
  go_enter Tryz.func115, Tryz.ntmps115
  go_wp2_with (first | (at_range; refine wpList_range_own _ rfl _ 117 rfl 9 3 lawS Tryz.und117 _ b n D rfl HO ?_; intro w0 hrg0 hg0 hs0) | go_in)
  have A0 := hid ((H.out.it_start hg0 hs0 hrg0).addNilG)
  have T0 := hid (Coll.start D)
  clear H HO hrg0 hg0 hs0 c0
  generalize w.heap.size = r at *
  go_frame
  go_loopw [3] (fun ov wr => ∃ (left : Lit → Bool) (cnt : Nat) (gs : List (List UInt8 × Int)), Hid (Coll D left cnt gs) ∧ Hid (All (rowG ov gs :: itC b r n D left cnt :: blkC P (flat qs) 122 :: cs) wr)) (fun _ wr => wr.rangeLeft b r)
  case atStart => exact ⟨_, _, [], T0, A0⟩
  case round =>
    obtain ⟨left, cnt, gs, TR, AR⟩ := hrel
    clear T0 A0
    have hrg : wr.ranges Tryz.prog 9 rE b r n D left cnt := AR.out.2.2.1.2.1
    have hsl : gs.length ≤ 1048576 := by
      have := TR.out.size
      omega
    obtain ⟨oa, oc, hoe⟩ := owns_form (AR.out.1.2.1 : wr.ownsRow 0 164 2 _ gs.length (cellsG gs))
    subst hoe
    have HRG := hid hrg
    go_wp2_with (at_next; refine wpList_next_ranges _ rfl _ rfl 9 lawS rE encStr (Value.int .i64) invK9 invV3 b r n _ _ _ rfl hrg ?_ ?_)
    · intro hc0 hl0
      have hle : left = fun _ => false := funext hl0
      subst hle
      have eg := TR.out.one HD.out
      subst eg
      clear hc0 hl0 hrg HRG TR
      go_wp2_with fail
      refine (sort_one _ _ _).mono ?_
      rintro e w2 ⟨rfl, rfl⟩
      go_wp2
      go_ret
      exact ⟨_, rfl, (AR.out.swap.it_end).swap⟩
    · intro x c kl yd yp w1 cnt1 hkey hlk hv hat hrg1 hlt hg1 hs1 hen
      obtain ⟨x', ex, rfl, hxl⟩ := keyS_inv hkey
      obtain rfl : x = x' := strB_inj (by simpa [encStr] using ex)
      obtain ⟨c', ec, ey, hwc⟩ := plainElem_int_inv Tryz.underlying3 hv
      cases ec
      simp only [Prod.mk.injEq] at ey
      have hkl : WideAt.IsKeyLit (.string x) := lawS.key hkey
      have hcv : c = leftD D (.string x) := by
        unfold leftD
        rw [hat, ey.1]
      have A1 := hid (AR.out.swap.it_turn (Or.inr rfl) hg1 hrg1).swap
      have hown : w1.ownsRow 0 164 2 (.slice oa gs.length oc) gs.length (cellsG gs) := A1.out.1.2.1
      have C1 := hid (TR.out.next hkl hlk hlt)
      have M1 := hid (show w1.rangeLeft b r < wr.rangeLeft b r from by rw [hrg1.left_eq, HRG.out.left_eq]; exact hlt)
      have HCV := hid hcv
      clear ex hs1 hg1 AR hrg hkl hat hv ey hlk hcv hkey hrg1 TR HRG
      go_wp2_with (at_builtin; refine wpList_append_own_at _ rfl (.tmp 16) (.tmp 20) 124 rfl 0 164 i0 (.agg #[.string ⟨#[]⟩, .int .i64 0]) 2 24 Tryz.und124 hi hz0 hz1 hz2 rfl (by decide) _ _ _ rfl (hown.alloc _) ⟨w1.heap.size, 0, none⟩ 1 1 [encStr x, .int .i64 c] rfl rfl (fun j u hu => news_new _ #[encStr x, .int .i64 c] 164 j u hu) (fun u hu => by simp at hu; rcases hu with rfl | rfl <;> rfl) (by unfold maxLen; omega) (by omega) (by omega) ?_)
      intro v' w2 hown2 hgr2 hnil hat2
      have hlen2 : (gs ++ [(x, leftD D (.string x))]).length = gs.length + 1 := by simp
      have ecell : cellsG gs ++ [encStr x, .int .i64 c] = cellsG (gs ++ [(x, leftD D (.string x))]) := by simp [cellsG, HCV.out]
      rw [ecell] at hown2
      have A2 := hid ((A1.out.alloc (.cells #[encStr x, .int .i64 c] 164)).growG (gs' := gs ++ [(x, leftD D (.string x))]) (by rw [hlen2]; exact hown2) hgr2 (by simpa using hat2))
      obtain ⟨oa', oc', eo⟩ := owns_form hown2
      have M2 := hid (show w2.rangeLeft b r < wr.rangeLeft b r from by
        have h2 : w2.ranges Tryz.prog 9 rE b r n D (fun z => left z && !z.sameKey (.string x)) cnt1 := A2.out.2.2.1.2.1
        have h1 : w1.ranges Tryz.prog 9 rE b r n D (fun z => left z && !z.sameKey (.string x)) cnt1 := A1.out.2.2.1.2.1
        rw [h2.left_eq, ← h1.left_eq]; exact M1.out)
      subst eo
      clear hown2 hgr2 hnil hat2 ecell hlen2 hown A1 M1
      go_wp2
      go_roundw
      case rel => exact ⟨_, _, _, C1, A2⟩
      case measure => exact M2.out
end Go.Proofs.YtkcepkehgkkkbaaGreatDoor

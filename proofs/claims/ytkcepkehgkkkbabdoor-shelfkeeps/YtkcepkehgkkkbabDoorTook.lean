import Derived.Test.YtkcepkehgkkkbabDoorDoC
namespace Go.Proofs.YtkcepkehgkkkbabDoor
open Go.RowKit
set_option linter.unusedVariables false

/-- A list of groups that was just made. -/
theorem All.addMadeG {cs : List Comp} {w : World} (h : All cs w) : All (rowG (.slice (some ⟨w.heap.size, 0, none⟩) 0 0) [] :: cs) (w.alloc (.cells #[] 66)) := by
  refine h.add (Fr.below (ba w _)) (rowG_good _ _) ?_ (fun k hk => ?_)
  · have := World.ownsRow_made (base := 0) (e := 66) (size := 2) w #[] 0 (Nat.zero_le _) (by unfold maxLen; omega) rfl
    exact this
  · have hk' : k = w.heap.size := by simp [rowG, Value.ownBlock] at hk; exact hk
    subst hk'
    exact ⟨Nat.le_refl _, by simp⟩
/-- A list of texts that was just made. -/
theorem All.addMade {cs : List Comp} {w : World} (h : All cs w) : All (ownC 9 (.slice (some ⟨w.heap.size, 0, none⟩) 0 0) (txtV []) :: cs) (w.alloc (.cells #[] 9)) := by
  refine h.addOwn (ba w _) ?_
  have := World.ownsRow_made (base := w.heap.size) (e := 9) (size := 1) w #[] 0 (Nat.le_refl _) (by unfold maxLen; omega) rfl
  exact this

/-- One entry, as it is laid down. -/
def tookF (who : List UInt8) (idx : Int) (p : List UInt8 × Int) : List UInt8 × Int := if p.1 = who then (p.1, idx) else p

set_option maxHeartbeats 3200000 in
set_option maxRecDepth 1000000 in
theorem took_any {v : Value} {gl : List (List UInt8 × Int)} {cs : List Comp} {w : World} (h : All (rowG v gl :: cs) w) (who : ByteArray) (idx : Int) (hc : ∀ c, (who.data.toList, c) ∈ gl → c < idx) (hlen : gl.length ≤ 4398046511104) :
    Calls Tryd.prog 17 #[v, .string who, .int .i64 idx] w fun e w' => ∃ oa oc gl', e = .returned (.tuple #[.slice oa (List.length gl') oc, .bool true]) ∧ (∀ p ∈ gl', p ∈ gl ∨ p = (who.data.toList, idx)) ∧ gl'.length ≤ gl.length + 1 ∧ All (rowG (.slice oa gl'.length oc) gl' :: cs) w' := by
  obtain ⟨va, vc, ev⟩ := owns_form (h.1.2.1 : w.ownsRow 0 66 2 v gl.length (cellsG gl))
  subst ev
  obtain ⟨i0, hi, hz0, hz1, hz2⟩ := info_parts Tryd.info66
  have A0 := hid h.addMadeG
  have HC := hid hc
  clear h hc
  go_enter Tryd.func17, Tryd.ntmps17
  go_wp2
  go_loopw [8, 9, 10] (fun ov fv iv wr => ∃ (k L oc : Nat) (oa : Option Addr) (f : Bool), ov = .slice oa L oc ∧ fv = .bool f ∧ iv = .int .i64 (k : Int) ∧ k ≤ gl.length ∧ Hid (L = k) ∧ L ≤ 4398046511104 ∧ Hid (All (rowG (.slice oa L oc) ((gl.take k).map (tookF who.data.toList idx)) :: rowG (.slice va gl.length vc) gl :: cs) wr)) (fun _ _ iv _ => gl.length - (intOf iv).toNat)
  case atStart => exact ⟨0, 0, 0, _, false, rfl, rfl, rfl, by omega, hid rfl, by omega, by simpa using A0⟩
  case round =>
    obtain ⟨k, L, oc, oa, f, rfl, rfl, rfl, hk, HL, hL, AR⟩ := hrel
    clear A0
    by_cases hlt : k < gl.length
    · have el : decide ((k : Int) < (gl.length : Int)) = true := by simpa using hlt
      obtain ⟨g, ea, hg, hc0, hc1⟩ := rowG_at (AR.out.2.2.1.2.1 : wr.ownsRow 0 66 2 (.slice va gl.length vc) gl.length (cellsG gl)) hlt
      subst ea
      rcases hgk : gl[k] with ⟨x, c⟩
      rw [hgk] at hc0 hc1
      simp only at hc0 hc1
      have hmem : (x, c) ∈ gl := by rw [← hgk]; exact List.getElem_mem hlt
      have HTK := hid (show (gl.take (k + 1)).map (tookF who.data.toList idx) = (gl.take k).map (tookF who.data.toList idx) ++ [tookF who.data.toList idx (x, c)] by rw [List.take_succ_eq_append_getElem hlt, List.map_append, hgk]; rfl)
      have HLN := hid (show ((gl.take k).map (tookF who.data.toList idx)).length = L by rw [List.length_map, List.length_take, HL.out]; omega)
      have k1 : (0 : Int) ≤ (k : Int) := by omega
      have k3 : ¬ (k : Int) < 0 := by omega
      have hrow : wr.ownsRow 0 66 2 (.slice oa L oc) L (cellsG ((gl.take k).map (tookF who.data.toList idx))) := by
        have h1 : wr.ownsRow 0 66 2 (.slice oa L oc) ((gl.take k).map (tookF who.data.toList idx)).length (cellsG ((gl.take k).map (tookF who.data.toList idx))) := AR.out.1.2.1
        rw [HLN.out] at h1
        exact h1
      clear hgk
      by_cases he : x = who.data.toList
      · have hb : ((strB x).toList == who.toList) = true := by rw [toList_data, toList_data, he]; simp [strB]
        have hci : c < idx := HC.out c (by rw [← he]; exact hmem)
        have ei : decide (idx ≤ c) = false := by simp; omega
        have HTF := hid (show tookF who.data.toList idx (x, c) = (x, idx) by simp [tookF, he])
        clear he hci hmem
        have hnews : ∀ j u, [Value.string (strB x), .int .i64 idx][j]? = some u → ((wr.alloc (.cells #[.string (strB x), .int .i64 idx] 66)).alloc (.cells #[.string (strB x), .int .i64 idx] 66)).cell? ((⟨wr.heap.size + 1, 0, none⟩ : Addr).add j) = some u := by
          intro j u hu
          have := news_new (wr.alloc (.cells #[.string (strB x), .int .i64 idx] 66)) #[.string (strB x), .int .i64 idx] 66 j u hu
          simpa using this
        go_wp2_with (at_builtin; refine wpList_append_own_at _ rfl (.tmp 34) (.tmp 36) 46 rfl 0 66 i0 (.agg #[.string ⟨#[]⟩, .int .i64 0]) 2 24 Tryd.und46 hi hz0 hz1 hz2 rfl (by decide) _ _ _ rfl ((hrow.alloc _).alloc _) ⟨wr.heap.size + 1, 0, none⟩ 1 1 [.string (strB x), .int .i64 idx] rfl rfl hnews (fun u hu => by simp at hu; rcases hu with rfl | rfl <;> rfl) (by unfold maxLen; omega) (by omega) (by omega) ?_)
        intro v' w3 hown hgr _ hat
        have A4 := ((AR.out.alloc (.cells #[.string (strB x), .int .i64 idx] 66)).alloc (.cells #[.string (strB x), .int .i64 idx] 66)).growG (gs' := (gl.take (k + 1)).map (tookF who.data.toList idx)) (base := 0) (v' := v') (by
          have e1 : ((gl.take (k + 1)).map (tookF who.data.toList idx)).length = L + 1 := by rw [HTK.out, List.length_append, HLN.out]; rfl
          have e2 : cellsG ((gl.take (k + 1)).map (tookF who.data.toList idx)) = cellsG ((gl.take k).map (tookF who.data.toList idx)) ++ [.string (strB x), .int .i64 idx] := by rw [HTK.out, HTF.out]; simp [cellsG]
          rw [e1, e2, List.map_take]
          exact hown) hgr (by simpa using hat)
        obtain ⟨oa', oc', rfl⟩ := owns_form hown
        have A4 := hid A4
        clear hown hgr hat hrow hnews AR
        go_wp2
        go_roundw
        case rel => exact ⟨k + 1, L + 1, oc', oa', _, rfl, rfl, by go_num, by omega, hid (by rw [HL.out]), by have := HL.out; omega, A4⟩
        case measure => simp [intOf]; omega
      · have hb : ((strB x).toList == who.toList) = false := by rw [toList_data, toList_data]; simpa [strB] using he
        have HTF := hid (show tookF who.data.toList idx (x, c) = (x, c) by simp [tookF, he])
        clear he hmem
        have hnews : ∀ j u, [Value.string (strB x), .int .i64 c][j]? = some u → ((wr.alloc (.cells #[.string (strB x), .int .i64 c] 66)).alloc (.cells #[.string (strB x), .int .i64 c] 66)).cell? ((⟨wr.heap.size + 1, 0, none⟩ : Addr).add j) = some u := by
          intro j u hu
          have := news_new (wr.alloc (.cells #[.string (strB x), .int .i64 c] 66)) #[.string (strB x), .int .i64 c] 66 j u hu
          simpa using this
        go_wp2_with (at_builtin; refine wpList_append_own_at _ rfl (.tmp 34) (.tmp 36) 46 rfl 0 66 i0 (.agg #[.string ⟨#[]⟩, .int .i64 0]) 2 24 Tryd.und46 hi hz0 hz1 hz2 rfl (by decide) _ _ _ rfl ((hrow.alloc _).alloc _) ⟨wr.heap.size + 1, 0, none⟩ 1 1 [.string (strB x), .int .i64 c] rfl rfl hnews (fun u hu => by simp at hu; rcases hu with rfl | rfl <;> rfl) (by unfold maxLen; omega) (by omega) (by omega) ?_)
        intro v' w3 hown hgr _ hat
        have A4 := ((AR.out.alloc (.cells #[.string (strB x), .int .i64 c] 66)).alloc (.cells #[.string (strB x), .int .i64 c] 66)).growG (gs' := (gl.take (k + 1)).map (tookF who.data.toList idx)) (base := 0) (v' := v') (by
          have e1 : ((gl.take (k + 1)).map (tookF who.data.toList idx)).length = L + 1 := by rw [HTK.out, List.length_append, HLN.out]; rfl
          have e2 : cellsG ((gl.take (k + 1)).map (tookF who.data.toList idx)) = cellsG ((gl.take k).map (tookF who.data.toList idx)) ++ [.string (strB x), .int .i64 c] := by rw [HTK.out, HTF.out]; simp [cellsG]
          rw [e1, e2, List.map_take]
          exact hown) hgr (by simpa using hat)
        obtain ⟨oa', oc', rfl⟩ := owns_form hown
        have A4 := hid A4
        clear hown hgr hat hrow hnews AR
        go_wp2
        go_roundw
        case rel => exact ⟨k + 1, L + 1, oc', oa', _, rfl, rfl, by go_num, by omega, hid (by rw [HL.out]), by have := HL.out; omega, A4⟩
        case measure => simp [intOf]; omega
    · have el : decide ((k : Int) < (gl.length : Int)) = false := by simp; omega
      obtain rfl : k = gl.length := by omega
      rw [List.take_length] at AR
      have HM := hid (show ∀ p ∈ gl.map (tookF who.data.toList idx), p ∈ gl ∨ p = (who.data.toList, idx) by
        intro p hp
        obtain ⟨q, hq, rfl⟩ := List.mem_map.1 hp
        unfold tookF
        split
        · rename_i h1
          exact Or.inr (by rw [h1])
        · exact Or.inl hq)
      have HLN := hid (show (gl.map (tookF who.data.toList idx)).length = L by rw [List.length_map, HL.out])
      cases f with
      | true =>
        go_wp2
        go_ret2
        refine ⟨oa, oc, gl.map (tookF who.data.toList idx), by rw [HLN.out]; rfl, HM.out, by rw [List.length_map]; omega, ?_⟩
        rw [HLN.out]
        exact AR.out.swap.tail
      | false =>
        have hrow : wr.ownsRow 0 66 2 (.slice oa L oc) L (cellsG (gl.map (tookF who.data.toList idx))) := by
          have h1 : wr.ownsRow 0 66 2 (.slice oa L oc) (gl.map (tookF who.data.toList idx)).length (cellsG (gl.map (tookF who.data.toList idx))) := AR.out.1.2.1
          rw [HLN.out] at h1
          exact h1
        have ew : who = strB who.data.toList := by cases who; simp [strB]
        have hnews : ∀ j u, [Value.string who, .int .i64 idx][j]? = some u → (wr.alloc (.cells #[.string who, .int .i64 idx] 66)).cell? ((⟨wr.heap.size, 0, none⟩ : Addr).add j) = some u := fun j u hu => news_new wr #[.string who, .int .i64 idx] 66 j u hu
        have EW := hid ew
        clear ew
        go_wp2_with (at_builtin; refine wpList_append_own_at _ rfl (.tmp 40) (.tmp 44) 46 rfl 0 66 i0 (.agg #[.string ⟨#[]⟩, .int .i64 0]) 2 24 Tryd.und46 hi hz0 hz1 hz2 rfl (by decide) _ _ _ rfl (hrow.alloc _) ⟨wr.heap.size, 0, none⟩ 1 1 [.string who, .int .i64 idx] rfl rfl hnews (fun u hu => by simp at hu; rcases hu with rfl | rfl <;> rfl) (by unfold maxLen; omega) (by omega) (by omega) ?_)
        intro v' w3 hown hgr _ hat
        have e1 : (gl.map (tookF who.data.toList idx) ++ [(who.data.toList, idx)]).length = L + 1 := by rw [List.length_append, HLN.out]; rfl
        have A4 := (AR.out.alloc (.cells #[.string who, .int .i64 idx] 66)).growG (gs' := gl.map (tookF who.data.toList idx) ++ [(who.data.toList, idx)]) (base := 0) (v' := v') (by
          have e2 : cellsG (gl.map (tookF who.data.toList idx) ++ [(who.data.toList, idx)]) = cellsG (gl.map (tookF who.data.toList idx)) ++ [.string who, .int .i64 idx] := by
            simp only [cellsG, List.flatMap_append, List.flatMap_cons, List.flatMap_nil, List.append_nil, encStr]
            rw [← EW.out]
          rw [e1, e2]
          exact hown) hgr (by simpa using hat)
        obtain ⟨oa', oc', rfl⟩ := owns_form hown
        have A4 := hid A4
        have E1 := hid e1
        clear hown hgr hat hrow hnews AR e1
        go_wp2
        go_ret2
        refine ⟨oa', oc', gl.map (tookF who.data.toList idx) ++ [(who.data.toList, idx)], by rw [E1.out]; rfl, ?_, by rw [List.length_append, List.length_map]; simp, ?_⟩
        · intro p hp
          rcases List.mem_append.1 hp with hp | hp
          · exact HM.out p hp
          · exact Or.inr (by simpa using hp)
        · rw [E1.out]
          exact A4.out.swap.tail
end Go.Proofs.YtkcepkehgkkkbabDoor

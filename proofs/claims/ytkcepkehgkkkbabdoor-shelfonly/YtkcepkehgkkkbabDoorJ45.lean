import Derived.Test.YtkcepkehgkkkbabDoorDoC
namespace Go.Proofs.YtkcepkehgkkkbabDoor
open Go.RowKit
set_option linter.unusedVariables false

/-- A list of groups that was just made. -/
theorem All.addMadeG {cs : List Comp} {w : World} (h : All cs w) : All (rowG (.slice (some ⟨w.heap.size, 0, none⟩) 0 0) [] :: cs) (w.alloc (.cells #[] 66)) := by
  refine h.add (Fr.below (ba w _)) (rowG_good _ _) ?_ (fun k hk => ?_)
  · have := World.ownsRow_made (base := 0) (e := 66) (size := 2) w #[] 0 (Nat.zero_le _) (by unfold maxLen; omega) rfl
    exact this
  · have hk' : k = w.heap.size := by simp [rowG, Value.ownBlock] at hk; exact hk
    subst hk'
    exact ⟨Nat.le_refl _, by simp⟩
/-- A list of texts that was just made. -/
theorem All.addMade {cs : List Comp} {w : World} (h : All cs w) : All (ownC 9 (.slice (some ⟨w.heap.size, 0, none⟩) 0 0) (txtV []) :: cs) (w.alloc (.cells #[] 9)) := by
  refine h.addOwn (ba w _) ?_
  have := World.ownsRow_made (base := w.heap.size) (e := 9) (size := 1) w #[] 0 (Nat.le_refl _) (by unfold maxLen; omega) rfl
  exact this

/-- One entry, as it is laid down. -/
def tookF (who : List UInt8) (idx : Int) (p : List UInt8 × Int) : List UInt8 × Int := if p.1 = who then (p.1, idx) else p

set_option maxHeartbeats 3200000 in
set_option maxRecDepth 1000000 in
theorem took_any {v : Value} {gl : List (List UInt8 × Int)} {cs : List Comp} {w : World} (h : All (rowG v gl :: cs) w) (who : ByteArray) (idx : Int) (hc : ∀ c, (who.data.toList, c) ∈ gl → c < idx) (hlen : gl.length ≤ 4398046511104) :
    Calls Tryd.prog 17 #[v, .string who, .int .i64 idx] w fun e w' => ∃ oa oc gl', e = .returned (.tuple #[.slice oa (List.length gl') oc, .bool true]) ∧ (∀ p ∈ gl', p ∈ gl ∨ p = (who.data.toList, idx)) ∧ gl'.length ≤ gl.length + 1 ∧ All (rowG (.slice oa gl'.length oc) gl' :: cs) w' := by
  obtain ⟨va, vc, ev⟩ := owns_form (h.1.2.1 : w.ownsRow 0 66 2 v gl.length (cellsG gl))
  subst ev
  obtain ⟨i0, hi, hz0, hz1, hz2⟩ := info_parts Tryd.info66
  have A0 := hid h.addMadeG
  have HC := hid hc
  clear h hc
  go_enter Tryd.func17, Tryd.ntmps17
  go_wp2
  go_loopw [8, 9, 10] (fun ov fv iv wr => ∃ (k L oc : Nat) (oa : Option Addr) (f : Bool), ov = .slice oa L oc ∧ fv = .bool f ∧ iv = .int .i64 (k : Int) ∧ k ≤ gl.length ∧ Hid (L = k) ∧ L ≤ 4398046511104 ∧ Hid (All (rowG (.slice oa L oc) ((gl.take k).map (tookF who.data.toList idx)) :: rowG (.slice va gl.length vc) gl :: cs) wr)) (fun _ _ iv _ => gl.length - (intOf iv).toNat)
  case atStart => exact ⟨0, 0, 0, _, false, rfl, rfl, rfl, by omega, hid rfl, by omega, by simpa using A0⟩
  case round =>
    obtain ⟨k, L, oc, oa, f, rfl, rfl, rfl, hk, HL, hL, AR⟩ := hrel
    clear A0
    by_cases hlt : k < gl.length
    · have el : decide ((k : Int) < (gl.length : Int)) = true := by simpa using hlt
      obtain ⟨g, ea, hg, hc0, hc1⟩ := rowG_at (AR.out.2.2.1.2.1 : wr.ownsRow 0 66 2 (.slice va gl.length vc) gl.length (cellsG gl)) hlt
      subst ea
      rcases hgk : gl[k] with ⟨x, c⟩
      rw [hgk] at hc0 hc1
      simp only at hc0 hc1
      have hmem : (x, c) ∈ gl := by rw [← hgk]; exact List.getElem_mem hlt
      have HTK := hid (show (gl.take (k + 1)).map (tookF who.data.toList idx) = (gl.take k).map (tookF who.data.toList idx) ++ [tookF who.data.toList idx (x, c)] by rw [List.take_succ_eq_append_getElem hlt, List.map_append, hgk]; rfl)
      have HLN := hid (show ((gl.take k).map (tookF who.data.toList idx)).length = L by rw [List.length_map, List.length_take, HL.out]; omega)
      have k1 : (0 : Int) ≤ (k : Int) := by omega
      have k3 : ¬ (k : Int) < 0 := by omega
      have hrow : wr.ownsRow 0 66 2 (.slice oa L oc) L (cellsG ((gl.take k).map (tookF who.data.toList idx))) := by
        have h1 : wr.ownsRow 0 66 2 (.slice oa L oc) ((gl.take k).map (tookF who.data.toList idx)).length (cellsG ((gl.take k).map (tookF who.data.toList idx))) := AR.out.1.2.1
        rw [HLN.out] at h1
        exact h1
      clear hgk
      by_cases he : x = who.data.toList
      · have hb : ((strB x).toList == who.toList) = true := by rw [toList_data, toList_data, he]; simp [strB]
        have hci : c < idx := HC.out c (by rw [← he]; exact hmem)
        have ei : decide (idx ≤ c) = false := by simp; omega
        have HTF := hid (show tookF who.data.toList idx (x, c) = (x, idx) by simp [tookF, he])
        clear he hci hmem
        have hnews : ∀ j u, [Value.string (strB x), .int .i64 idx][j]? = some u → ((wr.alloc (.cells #[.string (strB x), .int .i64 idx] 66)).alloc (.cells #[.string (strB x), .int .i64 idx] 66)).cell? ((⟨wr.heap.size + 1, 0, none⟩ : Addr).add j) = some u := by
          intro j u hu
          have := news_new (wr.alloc (.cells #[.string (strB x), .int .i64 idx] 66)) #[.string (strB x), .int .i64 idx] 66 j u hu
          simpa using this
        go_wp2_with (at_builtin; refine wpList_append_own_at _ rfl (.tmp 34) (.tmp 36) 46 rfl 0 66 i0 (.agg #[.string ⟨#[]⟩, .int .i64 0]) 2 24 Tryd.und46 hi hz0 hz1 hz2 rfl (by decide) _ _ _ rfl ((hrow.alloc _).alloc _) ⟨wr.heap.size + 1, 0, none⟩ 1 1 [.string (strB x), .int .i64 idx] rfl rfl hnews (fun u hu => by simp at hu; rcases hu with rfl | rfl <;> rfl) (by unfold maxLen; omega) (by omega) (by omega) ?_)
        intro v' w3 hown hgr _ hat
        have A4 := ((AR.out.alloc (.cells #[.string (strB x), .int .i64 idx] 66)).alloc (.cells #[.string (strB x), .int .i64 idx] 66)).growG (gs' := (gl.take (k + 1)).map (tookF who.data.toList idx)) (base := 0) (v' := v') (by
          have e1 : ((gl.take (k + 1)).map (tookF who.data.toList idx)).length = L + 1 := by rw [HTK.out, List.length_append, HLN.out]; rfl
          have e2 : cellsG ((gl.take (k + 1)).map (tookF who.data.toList idx)) = cellsG ((gl.take k).map (tookF who.data.toList idx)) ++ [.string (strB x), .int .i64 idx] := by rw [HTK.out, HTF.out]; simp [cellsG]
          rw [e1, e2, List.map_take]
          exact hown) hgr (by simpa using hat)
        obtain ⟨oa', oc', rfl⟩ := owns_form hown
        have A4 := hid A4
        clear hown hgr hat hrow hnews AR
        go_wp2
        go_roundw
        case rel => exact ⟨k + 1, L + 1, oc', oa', _, rfl, rfl, by go_num, by omega, hid (by rw [HL.out]), by have := HL.out; omega, A4⟩
        case measure => simp [intOf]; omega
      · have hb : ((strB x).toList == who.toList) = false := by rw [toList_data, toList_data]; simpa [strB] using he
        have HTF := hid (show tookF who.data.toList idx (x, c) = (x, c) by simp [tookF, he])
        clear he hmem
        have hnews : ∀ j u, [Value.string (strB x), .int .i64 c][j]? = some u → ((wr.alloc (.cells #[.string (strB x), .int .i64 c] 66)).alloc (.cells #[.string (strB x), .int .i64 c] 66)).cell? ((⟨wr.heap.size + 1, 0, none⟩ : Addr).add j) = some u := by
          intro j u hu
          have := news_new (wr.alloc (.cells #[.string (strB x), .int .i64 c] 66)) #[.string (strB x), .int .i64 c] 66 j u hu
          simpa using this
        go_wp2_with (at_builtin; refine wpList_append_own_at _ rfl (.tmp 34) (.tmp 36) 46 rfl 0 66 i0 (.agg #[.string ⟨#[]⟩, .int .i64 0]) 2 24 Tryd.und46 hi hz0 hz1 hz2 rfl (by decide) _ _ _ rfl ((hrow.alloc _).alloc _) ⟨wr.heap.size + 1, 0, none⟩ 1 1 [.string (strB x), .int .i64 c] rfl rfl hnews (fun u hu => by simp at hu; rcases hu with rfl | rfl <;> rfl) (by unfold maxLen; omega) (by omega) (by omega) ?_)
        intro v' w3 hown hgr _ hat
        have A4 := ((AR.out.alloc (.cells #[.string (strB x), .int .i64 c] 66)).alloc (.cells #[.string (strB x), .int .i64 c] 66)).growG (gs' := (gl.take (k + 1)).map (tookF who.data.toList idx)) (base := 0) (v' := v') (by
          have e1 : ((gl.take (k + 1)).map (tookF who.data.toList idx)).length = L + 1 := by rw [HTK.out, List.length_append, HLN.out]; rfl
          have e2 : cellsG ((gl.take (k + 1)).map (tookF who.data.toList idx)) = cellsG ((gl.take k).map (tookF who.data.toList idx)) ++ [.string (strB x), .int .i64 c] := by rw [HTK.out, HTF.out]; simp [cellsG]
          rw [e1, e2, List.map_take]
          exact hown) hgr (by simpa using hat)
        obtain ⟨oa', oc', rfl⟩ := owns_form hown
        have A4 := hid A4
        clear hown hgr hat hrow hnews AR
        go_wp2
        go_roundw
        case rel => exact ⟨k + 1, L + 1, oc', oa', _, rfl, rfl, by go_num, by omega, hid (by rw [HL.out]), by have := HL.out; omega, A4⟩
        case measure => simp [intOf]; omega
    · have el : decide ((k : Int) < (gl.length : Int)) = false := by simp; omega
      obtain rfl : k = gl.length := by omega
      rw [List.take_length] at AR
      have HM := hid (show ∀ p ∈ gl.map (tookF who.data.toList idx), p ∈ gl ∨ p = (who.data.toList, idx) by
        intro p hp
        obtain ⟨q, hq, rfl⟩ := List.mem_map.1 hp
        unfold tookF
        split
        · rename_i h1
          exact Or.inr (by rw [h1])
        · exact Or.inl hq)
      have HLN := hid (show (gl.map (tookF who.data.toList idx)).length = L by rw [List.length_map, HL.out])
      cases f with
      | true =>
        go_wp2
        go_ret2
        refine ⟨oa, oc, gl.map (tookF who.data.toList idx), by rw [HLN.out]; rfl, HM.out, by rw [List.length_map]; omega, ?_⟩
        rw [HLN.out]
        exact AR.out.swap.tail
      | false =>
        have hrow : wr.ownsRow 0 66 2 (.slice oa L oc) L (cellsG (gl.map (tookF who.data.toList idx))) := by
          have h1 : wr.ownsRow 0 66 2 (.slice oa L oc) (gl.map (tookF who.data.toList idx)).length (cellsG (gl.map (tookF who.data.toList idx))) := AR.out.1.2.1
          rw [HLN.out] at h1
          exact h1
        have ew : who = strB who.data.toList := by cases who; simp [strB]
        have hnews : ∀ j u, [Value.string who, .int .i64 idx][j]? = some u → (wr.alloc (.cells #[.string who, .int .i64 idx] 66)).cell? ((⟨wr.heap.size, 0, none⟩ : Addr).add j) = some u := fun j u hu => news_new wr #[.string who, .int .i64 idx] 66 j u hu
        have EW := hid ew
        clear ew
        go_wp2_with (at_builtin; refine wpList_append_own_at _ rfl (.tmp 40) (.tmp 44) 46 rfl 0 66 i0 (.agg #[.string ⟨#[]⟩, .int .i64 0]) 2 24 Tryd.und46 hi hz0 hz1 hz2 rfl (by decide) _ _ _ rfl (hrow.alloc _) ⟨wr.heap.size, 0, none⟩ 1 1 [.string who, .int .i64 idx] rfl rfl hnews (fun u hu => by simp at hu; rcases hu with rfl | rfl <;> rfl) (by unfold maxLen; omega) (by omega) (by omega) ?_)
        intro v' w3 hown hgr _ hat
        have e1 : (gl.map (tookF who.data.toList idx) ++ [(who.data.toList, idx)]).length = L + 1 := by rw [List.length_append, HLN.out]; rfl
        have A4 := (AR.out.alloc (.cells #[.string who, .int .i64 idx] 66)).growG (gs' := gl.map (tookF who.data.toList idx) ++ [(who.data.toList, idx)]) (base := 0) (v' := v') (by
          have e2 : cellsG (gl.map (tookF who.data.toList idx) ++ [(who.data.toList, idx)]) = cellsG (gl.map (tookF who.data.toList idx)) ++ [.string who, .int .i64 idx] := by
            simp only [cellsG, List.flatMap_append, List.flatMap_cons, List.flatMap_nil, List.append_nil, encStr]
            rw [← EW.out]
          rw [e1, e2]
          exact hown) hgr (by simpa using hat)
        obtain ⟨oa', oc', rfl⟩ := owns_form hown
        have A4 := hid A4
        have E1 := hid e1
        clear hown hgr hat hrow hnews AR e1
        go_wp2
        go_ret2
        refine ⟨oa', oc', gl.map (tookF who.data.toList idx) ++ [(who.data.toList, idx)], by rw [E1.out]; rfl, ?_, by rw [List.length_append, List.length_map]; simp, ?_⟩
        · intro p hp
          rcases List.mem_append.1 hp with hp | hp
          · exact HM.out p hp
          · exact Or.inr (by simpa using hp)
        · rw [E1.out]
          exact A4.out.swap.tail
end Go.Proofs.YtkcepkehgkkkbabDoor

namespace Go.Proofs.YtkcepkehgkkkbabDoor
open Go.RowKit
set_option linter.unusedVariables false

abbrev sQ : ByteArray := ⟨#[113]⟩

/-- What holds of the queue that is watched, the list of what was pushed and the groups that took. -/
structure Kq (Q : Qs) (pushed : List ByteArray) (gl : List (List UInt8 × Int)) : Prop where
  nm : Q.nm = sQ
  len : pushed.length = Q.first + Q.items.length
  drop : pushed.drop Q.first = Q.items
  gs : ∀ p ∈ gl, Maps.has Q.D (.string p.1) = true ∧ p.2 < leftD Q.D (.string p.1)
structure Kept (i : Nat) (S : St) (pushed : List ByteArray) (gl : List (List UInt8 × Int)) : Prop where
  ok : OkS (i + 1) S
  q : ∃ Q, S[0]? = some (some Q) ∧ Kq Q pushed gl
  pl : pushed.length ≤ i
  gn : gl.length ≤ i
theorem OkS.up {N : Nat} {S : St} (h : OkS N S) : OkS (N + 1) S := ⟨h.len, fun i q hq => by
    have O := h.each i q hq
    exact ⟨O.nm0, O.nm16, O.len, O.small, O.fin, O.gs, O.gk, Nat.le_succ_of_le O.cn⟩, h.one⟩
theorem Kept.up {i : Nat} {S : St} {pushed : List ByteArray} {gl : List (List UInt8 × Int)} (h : Kept i S pushed gl) : Kept (i + 1) S pushed gl := ⟨h.ok.up, h.q, Nat.le_succ_of_le h.pl, Nat.le_succ_of_le h.gn⟩

section
variable {i : Nat} {S S' : St} {pushed : List ByteArray} {gl : List (List UInt8 × Int)} {k n m c x j : Int} {nm tx : ByteArray} {items : List ByteArray}

/-- Another queue's op. -/
theorem kept_far (h : Kept i S pushed gl) (hT : ∀ (i : Nat) (q : Qs), S[i]? = some (some q) → Maps.Tidy q.D) (hk : chkA k nm.size tx.size n m = 0) (hD : Deed S nm tx n m k S' c x items j) (hn : nm ≠ sQ) : Kept (i + 1) S' pushed gl := by
  obtain ⟨Q, hQ, K⟩ := h.q
  refine ⟨deed_ok h.ok hT hk hD, ⟨Q, ?_, K⟩, Nat.le_succ_of_le h.pl, Nat.le_succ_of_le h.gn⟩
  have other : ∀ (f : Nat) (s : Option Qs), f ≠ 0 → (S.set f s)[0]? = some (some Q) := fun f s hf => by
    rw [List.getElem?_set_ne (by omega)]; exact hQ
  have ne0 : ∀ (f : Nat) (q : Qs), S[f]? = some (some q) → q.nm = nm → f ≠ 0 := fun f q hs he h0 => by
    subst h0
    rw [hQ] at hs
    simp only [Option.some.injEq] at hs
    subst hs
    exact hn (by rw [← he, K.nm])
  cases hD with
  | make f b _ _ hs => exact other f _ (fun h0 => by subst h0; rw [hQ] at hs; simp at hs)
  | drop f q _ hs hn' => exact other f _ (ne0 f q hs hn')
  | push f q iv' _ hs hn' _ _ => exact other f _ (ne0 f q hs hn')
  | trim f q iv' D' d _ hs hn' _ _ _ _ => exact other f _ (ne0 f q hs hn')
  | take f q d item _ hs hn' _ _ => exact other f _ (ne0 f q hs hn')
  | _ => exact hQ

/-- The watched queue is found at the first slot. -/
theorem kept_at (h : Kept i S pushed gl) {Q : Qs} (hQ : S[0]? = some (some Q)) (hn : nm = sQ) {f : Nat} {q : Qs} (hs : S[f]? = some (some q)) (he : q.nm = nm) : f = 0 ∧ q = Q := by
  obtain ⟨Q', hQ', K⟩ := h.q
  rw [hQ] at hQ'
  simp only [Option.some.injEq] at hQ'
  subst hQ'
  have := h.ok.one f 0 q Q hs hQ (by rw [he, hn, K.nm])
  subst this
  rw [hQ] at hs
  simp only [Option.some.injEq] at hs
  exact ⟨rfl, hs.symm⟩
theorem kept_found (h : Kept i S pushed gl) (hn : nm = sQ) : findN (stV S) nm = 0 := by
  obtain ⟨Q, hQ, K⟩ := h.q
  rcases find_cases h.ok nm (by rw [hn]; decide) with ⟨_, h2⟩ | ⟨f, q, h2, hs, he⟩
  · exact absurd K.nm (by rw [← hn]; exact h2 0 Q hQ)
  · obtain ⟨rfl, _⟩ := kept_at h hQ hn hs he
    exact h2

/-- Nothing is done. -/
theorem kept_not (h : Kept i S pushed gl) (hD : Deed S nm tx n m k S' c x items j) (hc : c ≠ 0) : Kept (i + 1) S' pushed gl := by
  cases hD <;> first | exact h.up | exact absurd rfl hc

theorem kept_no1 (h : Kept i S pushed gl) (hn : nm = sQ) (hD : Deed S nm tx n m 1 S' c x items j) : c ≠ 0 := by
  have hf := kept_found h hn
  generalize hk : (1 : Int) = kk at hD
  cases hD with
  | there _ => omega
  | full h1 _ => rw [h1] at hf; omega
  | make f b h1 _ _ => rw [h1] at hf; omega
  | _ => omega

theorem kept_push (h : Kept i S pushed gl) (hT : ∀ (i : Nat) (q : Qs), S[i]? = some (some q) → Maps.Tidy q.D) (hk : chkA 3 nm.size tx.size n m = 0) (hn : nm = sQ) (hD : Deed S nm tx n m 3 S' c x items j) (hc : c = 0) : x = (pushed.length : Int) ∧ Kept (i + 1) S' (pushed ++ [tx]) gl := by
  obtain ⟨Q, hQ, K⟩ := h.q
  have ok := deed_ok h.ok hT hk hD
  generalize hkk : (3 : Int) = kk at hD
  cases hD with
  | push f q iv' _ hs hn' hl hf =>
    obtain ⟨rfl, rfl⟩ := kept_at h hQ hn hs hn'
    have hlen := K.len
    have hil : 0 < S.length := by rw [h.ok.len]; omega
    refine ⟨by omega, ok, ⟨_, by rw [List.getElem?_set_self hil], ?_⟩, by rw [List.length_append]; have := h.pl; simp; omega, Nat.le_succ_of_le h.gn⟩
    refine ⟨K.nm, by simp only [List.length_append]; omega, ?_, K.gs⟩
    simp only
    rw [List.drop_append_of_le_length (by omega), K.drop]
  | _ => omega

theorem kept_trim (h : Kept i S pushed gl) (hT : ∀ (i : Nat) (q : Qs), S[i]? = some (some q) → Maps.Tidy q.D) (hk : chkA 4 nm.size tx.size n m = 0) (hn : nm = sQ) (hD : Deed S nm tx n m 4 S' c x items j) (hc : c = 0) : Kept (i + 1) S' pushed gl := by
  obtain ⟨Q, hQ, K⟩ := h.q
  have ok := deed_ok h.ok hT hk hD
  generalize hkk : (4 : Int) = kk at hD
  cases hD with
  | trim f q iv' D' d _ hs hn' hd h0 hl ht =>
    obtain ⟨rfl, rfl⟩ := kept_at h hQ hn hs hn'
    have hlen := K.len
    have hil : 0 < S.length := by rw [h.ok.len]; omega
    refine ⟨ok, ⟨_, by rw [List.getElem?_set_self hil], ?_⟩, Nat.le_succ_of_le h.pl, Nat.le_succ_of_le h.gn⟩
    refine ⟨K.nm, by simp only [List.length_drop]; omega, ?_, fun p hp => ?_⟩
    · simp only
      rw [← K.drop, List.drop_drop]
    · obtain ⟨g1, g2⟩ := K.gs p hp
      simp only
      have hv := ht.val _ g1
      rw [if_neg (by simp)] at hv
      exact ⟨by rw [ht.has]; exact g1, by rw [hv]; omega⟩
  | trimNone _ _ _ _ _ _ => exact h.up
  | _ => omega

theorem kept_take (h : Kept i S pushed gl) (hT : ∀ (i : Nat) (q : Qs), S[i]? = some (some q) → Maps.Tidy q.D) (hk : chkA 5 nm.size tx.size n m = 0) (hn : nm = sQ) (hD : Deed S nm tx n m 5 S' c x items j) (hc : c = 0) :
    ∃ (a : Nat) (item : ByteArray), x = (a : Int) ∧ items = [item] ∧ a + 1 ≤ pushed.length ∧ (pushed.drop a).take 1 = [item] ∧ (∀ c, (tx.data.toList, c) ∈ gl → c < x) ∧ ∀ gl', (∀ p ∈ gl', p ∈ gl ∨ p = (tx.data.toList, x)) → gl'.length ≤ gl.length + 1 → Kept (i + 1) S' pushed gl' := by
  obtain ⟨Q, hQ, K⟩ := h.q
  have ok := deed_ok h.ok hT hk hD
  have cc := chk_5 hk
  generalize hkk : (5 : Int) = kk at hD
  cases hD with
  | take f q d item _ hs hn' hd hh =>
    obtain ⟨rfl, rfl⟩ := kept_at h hQ hn hs hn'
    have hlen := K.len
    have hil : 0 < S.length := by rw [h.ok.len]; omega
    have hdl : d < q.items.length := (List.getElem?_eq_some_iff.1 hd).1
    have ht := hT 0 q hQ
    have hkl : WideAt.IsKeyLit (.string tx.data.toList) := lawS.key (WideMaps.keyOf_string_mk Tryd.underlying9 (by unfold maxLen; omega))
    refine ⟨q.first + d, item, by omega, rfl, by omega, ?_, ?_, ?_⟩
    · have e1 : pushed.drop (q.first + d) = q.items.drop d := by rw [← K.drop, List.drop_drop]
      rw [e1, List.drop_eq_getElem_cons hdl]
      have e2 : q.items[d] = item := (List.getElem?_eq_some_iff.1 hd).2
      rw [e2]; rfl
    · intro c' hc'
      obtain ⟨g1, g2⟩ := K.gs _ hc'
      simp only at g1 g2
      rcases hh with ⟨_, h2⟩ | ⟨h1, _⟩
      · omega
      · rw [g1] at h1; cases h1
    · intro gl' hg hgl
      refine ⟨ok, ⟨_, by rw [List.getElem?_set_self hil], ?_⟩, Nat.le_succ_of_le h.pl, by have := h.gn; omega⟩
      refine ⟨K.nm, K.len, K.drop, fun p hp => ?_⟩
      simp only
      have old : ∀ y : List UInt8, Maps.has q.D (.string y) = true → Maps.has (q.D.put (.string tx.data.toList) (.lit (.int .i64 ((q.first : Int) + (d : Int) + 1)))) (.string y) = true := by
        intro y hy
        by_cases e : Lit.string y = Lit.string tx.data.toList
        · rw [e]; exact Maps.has_put_same ht.isMap hkl _
        · rw [Maps.has_put_other e]; exact hy
      rcases hg p hp with hp | rfl
      · obtain ⟨g1, g2⟩ := K.gs p hp
        refine ⟨old _ g1, ?_⟩
        by_cases e : Lit.string p.1 = Lit.string tx.data.toList
        · have ep : p.1 = tx.data.toList := by injection e
          rw [ep] at g1 g2 ⊢
          rw [leftD_put_same ht.isMap hkl]
          rcases hh with ⟨_, h2⟩ | ⟨h1, _⟩
          · omega
          · rw [g1] at h1; cases h1
        · rw [leftD_put_other e]; exact g2
      · simp only
        rw [leftD_put_same ht.isMap hkl]
        exact ⟨Maps.has_put_same ht.isMap hkl _, by omega⟩
  | _ => omega

theorem kept_read (h : Kept i S pushed gl) (hk : chkA 6 nm.size tx.size n m = 0) (hn : nm = sQ) (hD : Deed S nm tx n m 6 S' c x items j) (hc : c = 0) : (items.length : Int) ≤ m ∧ items.length ≤ 8 ∧ (0 < items.length → n ≤ x) ∧ (items = [] ∨ ∃ a : Nat, x = (a : Int) ∧ a + items.length ≤ pushed.length ∧ (pushed.drop a).take items.length = items) ∧ Kept (i + 1) S' pushed gl := by
  obtain ⟨Q, hQ, K⟩ := h.q
  have cc := chk_6 hk
  generalize hkk : (6 : Int) = kk at hD
  cases hD with
  | readNone _ _ _ _ _ _ => exact ⟨by simp; omega, by simp, by simp, Or.inl rfl, h.up⟩
  | read f q d _ hs hn' hd hl =>
    obtain ⟨rfl, rfl⟩ := kept_at h hQ hn hs hn'
    have hlen := K.len
    have hll : ((q.items.drop d).take m.toNat).length = min m.toNat (q.items.length - d) := by rw [List.length_take, List.length_drop]
    refine ⟨by rw [hll]; omega, by rw [hll]; omega, fun _ => by omega, Or.inr ⟨q.first + d, by omega, by rw [hll]; omega, ?_⟩, h.up⟩
    have e1 : pushed.drop (q.first + d) = q.items.drop d := by rw [← K.drop, List.drop_drop]
    rw [e1, hll, ← List.length_drop]
    rw [List.take_eq_take_iff]
    omega
  | _ => omega

theorem kept_count (h : Kept i S pushed gl) (hn : nm = sQ) (hD : Deed S nm tx n m 7 S' c x items j) (hc : c = 0) : x ≤ (pushed.length : Int) ∧ x ≤ 32 ∧ Kept (i + 1) S' pushed gl := by
  obtain ⟨Q, hQ, K⟩ := h.q
  generalize hkk : (7 : Int) = kk at hD
  cases hD with
  | count f q _ hs hn' =>
    obtain ⟨rfl, rfl⟩ := kept_at h hQ hn hs hn'
    have hlen := K.len
    have := (h.ok.each 0 q hQ).len
    exact ⟨by omega, by omega, h.up⟩
  | _ => omega
end
end Go.Proofs.YtkcepkehgkkkbabDoor

import Derived.Test.YtkcepkehgkkkbaaGreatDoorJ9
namespace Go.Proofs.YtkcepkehgkkkbaaGreatDoor
open Go.RowKit
open Go.Maps (Keyed)
set_option linter.unusedVariables false

abbrev encStr (x : List UInt8) : Value := .string (strB x)
/-- Groups as they lie in a list. -/
def cellsG (gs : List (List UInt8 × Int)) : List Value := gs.flatMap fun g => [encStr g.1, .int .i64 g.2]
def rowG (v : Value) (gs : List (List UInt8 × Int)) : Comp := ⟨fun w => w.ownsRow 0 164 2 v gs.length (cellsG gs), v.ownBlock.toList⟩
theorem rowG_good (v : Value) (gs : List (List UInt8 × Int)) : (rowG v gs).Good := by
  rintro w w' ⟨h1, h2⟩ hl hk
  refine ⟨h1, h2.imp id ?_⟩
  rintro ⟨g, cap, cur, rfl, hb, hg, r⟩
  exact ⟨g, cap, cur, rfl, hb, (hk g (by simp [rowG, Value.ownBlock])).trans hg, r⟩
theorem All.addNilG {cs : List Comp} {w : World} (h : All cs w) : All (rowG (.slice none 0 0) [] :: cs) w :=
  ⟨⟨rowG_good _ _, ⟨by simp [cellsG], Or.inl ⟨rfl, rfl⟩⟩, fun k hk => by simp [rowG, Value.ownBlock] at hk⟩, fun d hd k hk => by simp [rowG, Value.ownBlock] at hk, h⟩
theorem owns_zero2 {w : World} {base : Nat} {v : Value} {n : Nat} {xs : List Value} (h : w.ownsRow base 164 2 v n xs) : w.ownsRow 0 164 2 v n xs := owns_zero h
theorem All.growG {v v' : Value} {gs gs' : List (List UInt8 × Int)} {cs : List Comp} {w w1 : World} {base : Nat} (h : All (rowG v gs :: cs) w) (hown : w1.ownsRow base 164 2 v' gs'.length (cellsG gs')) (hg : w.grownBy w1 v.ownBlock) (hat : v'.ownBlock = v.ownBlock ∨ v'.ownBlock = some w.heap.size) : All (rowG v' gs' :: cs) w1 := by
  have ho' := owns_zero2 hown
  refine h.turn ((grown_fr hg).mono (fun k hk => by simpa [rowG] using hk)) (rowG_good _ _) ho' (fun k hk => ?_) (fun k hk => ?_)
  · have hk' : v'.ownBlock = some k := by simpa [rowG] using hk
    rcases hat with e1 | e1
    · exact Or.inl (by simp [rowG, ← e1, hk'])
    · rw [e1] at hk'; simp at hk'; exact Or.inr (by omega)
  · have hk' : v'.ownBlock = some k := by simpa [rowG] using hk
    exact (ho'.lt k hk').2

/-- A loop over a map, as a part. -/
def itC (b r n : Nat) (D : DataW Unit) (left : Lit → Bool) (cnt : Nat) : Comp := ⟨fun w => w.ranges Tryz.prog 9 rE b r n D left cnt, [b, r]⟩
theorem itC_good (b r n : Nat) (D : DataW Unit) (left : Lit → Bool) (cnt : Nat) : (itC b r n D left cnt).Good := by
  rintro w w' ⟨es, clock, since, seen, c0, hb, F, hs, hD, hr, rest⟩ hl hk
  exact ⟨es, clock, since, seen, c0, (hk b (by simp [itC])).trans hb, F, hs, hD, (hk r (by simp [itC])).trans hr, rest⟩
theorem All.it_turn {b r n : Nat} {D D' : DataW Unit} {left left' : Lit → Bool} {cnt cnt' : Nat} {cs : List Comp} {w w' : World} {j : Nat} (h : All (itC b r n D left cnt :: cs) w) (hj : j = b ∨ j = r) (hg : w.grownBy w' (some j)) (hr : w'.ranges Tryz.prog 9 rE b r n D' left' cnt') : All (itC b r n D' left' cnt' :: cs) w' := by
  refine h.turn ((grown_fr hg).mono (fun k hk => by simp at hk; subst hk; rcases hj with rfl | rfl <;> simp [itC])) (itC_good _ _ _ _ _ _) hr (fun k hk => Or.inl (by simpa [itC] using hk)) (fun k hk => ?_)
  have hk' : k = b ∨ k = r := by simpa [itC] using hk
  rcases hk' with rfl | rfl
  · exact hr.owns.lt
  · exact hr.lt
/-- The loop begins. -/
theorem All.it_start {b n : Nat} {D : DataW Unit} {cs : List Comp} {w w' : World} (h : All (mapC b n D :: cs) w) (hg : w.grownBy w' none) (hs : w'.heap.size = w.heap.size + 1) (hr : w'.ranges Tryz.prog 9 rE b w.heap.size n D (Maps.has D) (Maps.size D)) : All (itC b w.heap.size n D (Maps.has D) (Maps.size D) :: cs) w' := by
  have hbel : Below w.heap.size w w' := ⟨hg.os, hg.tape, hg.output, hg.size, fun k hk => hg.block k hk (by simp)⟩
  have h' := h.later hbel
  have hb : b < w.heap.size := h.1.2.2 b (by simp [mapC])
  refine ⟨⟨itC_good _ _ _ _ _ _, hr, fun k hk => ?_⟩, fun d hd k hk hkd => ?_, h'.2.2⟩
  · have hk' : k = b ∨ k = w.heap.size := by simpa [itC] using hk
    rcases hk' with rfl | rfl <;> omega
  · have hk' : k = b ∨ k = w.heap.size := by simpa [itC] using hk
    rcases hk' with rfl | rfl
    · exact h.2.1 d hd k (by simp [mapC]) hkd
    · have := (h.2.2.mem hd).2.2 _ hkd
      omega
/-- The loop is over. -/
theorem All.it_end {b r n : Nat} {D : DataW Unit} {left : Lit → Bool} {cnt : Nat} {cs : List Comp} {w : World} (h : All (itC b r n D left cnt :: cs) w) : All (mapC b n D :: cs) w := by
  obtain ⟨⟨g1, h1, l1⟩, d1, h3⟩ := h
  refine ⟨⟨mapC_good _ _ _, h1.owns, fun k hk => ?_⟩, fun d hd k hk hkd => ?_, h3⟩
  · have : k = b := by simpa [mapC] using hk
    subst this
    exact l1 _ (by simp [itC])
  · have : k = b := by simpa [mapC] using hk
    subst this
    exact d1 d hd _ (by simp [itC]) hkd

theorem has_struck {left : Lit → Bool} {kl : Lit} (hk : WideAt.IsKeyLit kl) : (left kl && !kl.sameKey kl) = false := by
  rw [WideAt.sameKey_self hk]; simp
theorem left_struck {left : Lit → Bool} {kl x : Lit} (h : x ≠ kl) : (left x && !x.sameKey kl) = left x := by
  rw [Maps.sameKey_ne h]; simp

/-- The entries that have been told so far. -/
structure Coll (D : DataW Unit) (left : Lit → Bool) (cnt : Nat) (gs : List (List UInt8 × Int)) : Prop where
  mem : ∀ x c, (x, c) ∈ gs ↔ (Maps.has D (.string x) = true ∧ left (.string x) = false ∧ c = leftD D (.string x))
  nodup : (gs.map Prod.fst).Nodup
  lt : ∀ kl, left kl = true → Maps.has D kl = true
  size : gs.length + cnt ≤ Maps.size D

theorem Coll.start (D : DataW Unit) : Coll D (Maps.has D) (Maps.size D) [] := by
  refine ⟨fun x c => ?_, List.nodup_nil, fun kl h => h, by simp⟩
  constructor
  · intro h; cases h
  · rintro ⟨h1, h2, _⟩; rw [h1] at h2; cases h2
theorem Coll.next {D : DataW Unit} {left : Lit → Bool} {cnt cnt' : Nat} {gs : List (List UInt8 × Int)} (h : Coll D left cnt gs) {x : List UInt8} (hk : WideAt.IsKeyLit (.string x)) (hl : left (.string x) = true) (hc : cnt' < cnt) : Coll D (fun z => left z && !z.sameKey (.string x)) cnt' (gs ++ [(x, leftD D (.string x))]) := by
  have hni : ∀ c, (x, c) ∉ gs := fun c hm => by
    have := ((h.mem x c).1 hm).2.1
    rw [hl] at this
    cases this
  refine ⟨fun y c => ?_, ?_, fun z hz => h.lt z (by simp at hz; exact hz.1), ?_⟩
  · rw [List.mem_append, List.mem_singleton]
    by_cases e : y = x
    · subst e
      simp only [has_struck hk, Prod.mk.injEq, true_and]
      constructor
      · rintro (hm | rfl)
        · exact absurd hm (hni c)
        · exact ⟨h.lt _ hl, rfl⟩
      · rintro ⟨_, rfl⟩
        exact Or.inr rfl
    · have e' : Lit.string y ≠ .string x := fun h => e (by injection h)
      simp only [left_struck e', Prod.mk.injEq, e, false_and, or_false]
      exact h.mem y c
  · rw [List.map_append, List.nodup_append]
    refine ⟨h.nodup, by simp, fun a ha b hb eab => ?_⟩
    simp at hb
    subst hb
    subst eab
    obtain ⟨p, hp, e⟩ := List.mem_map.1 ha
    exact hni p.2 (by rw [← e]; exact hp)
  · have := h.size
    rw [List.length_append, List.length_singleton]
    omega

/-- Just one entry. -/
theorem Coll.one {D : DataW Unit} {cnt : Nat} {gs : List (List UInt8 × Int)} (h : Coll D (fun _ => false) cnt gs) {x0 : List UInt8} (hD : ∀ x, Maps.has D (.string x) = true ↔ x = x0) : gs = [(x0, leftD D (.string x0))] := by
  have hall : ∀ g ∈ gs, g = (x0, leftD D (.string x0)) := by
    rintro ⟨x, c⟩ hm
    obtain ⟨h1, _, h3⟩ := (h.mem x c).1 hm
    have := (hD x).1 h1
    subst this
    rw [h3]
  have hin : (x0, leftD D (.string x0)) ∈ gs := (h.mem _ _).2 ⟨(hD x0).2 rfl, rfl, rfl⟩
  cases gs with
  | nil => cases hin
  | cons g gs =>
    have hg := hall g (by simp)
    subst hg
    cases gs with
    | nil => rfl
    | cons g' gs =>
      have hg' := hall g' (by simp)
      subst hg'
      have := h.nodup
      simp at this
end Go.Proofs.YtkcepkehgkkkbaaGreatDoor

namespace Go.Proofs.YtkcepkehgkkkbaaGreatDoor
open Go.RowKit
open Go.Maps (Keyed)
set_option linter.unusedVariables false

theorem Tryz.info164 : (Tryz.prog.info? 164).map (fun i => (i.zero, i.size, i.bytes)) = some (some (.agg #[.string ⟨#[]⟩, .int .i64 0]), 2, 24) := by kernel_rfl
theorem Tryz.und124 : Tryz.prog.underlying 124 = some (.slice 164) := by kernel_rfl

theorem keyS_inv {key : Value} {kl : Lit} (h : keyOf Tryz.prog 9 key = some kl) : ∃ x : List UInt8, key = encStr x ∧ kl = .string x ∧ x.length ≤ maxLen := by
  cases key <;> simp [keyOf, Tryz.underlying9, mapKey] at h
  rename_i s
  obtain ⟨h1, rfl⟩ := h
  exact ⟨s.data.toList, by simp [encStr, strB], rfl, h1⟩
theorem invK9 : ∀ key kl, keyOf Tryz.prog 9 key = some kl → ∃ x, key = encStr x := fun key kl hk => by
  obtain ⟨x, hx, _⟩ := keyS_inv hk
  exact ⟨x, hx⟩
theorem invV3 : ∀ (v : Value) (y : DataW Unit × List MemPlace), rE v = some y → ∃ c, v = Value.int .i64 c := fun v y hv => by
  obtain ⟨c, rfl, _⟩ := plainElem_int_inv Tryz.underlying3 hv
  exact ⟨c, rfl⟩
theorem strB_inj {x y : List UInt8} (h : strB x = strB y) : x = y := by
  have := congrArg (fun b : ByteArray => b.data.toList) h
  simpa [strB] using this

theorem news_new (w : World) (cs : Array Value) (t : TypeId) (j : Nat) (u : Value) (hu : cs.toList[j]? = some u) : (w.alloc (.cells cs t)).cell? ((⟨w.heap.size, 0, none⟩ : Addr).add j) = some u := by
  have hadd : (⟨w.heap.size, 0, none⟩ : Addr).add j = ⟨w.heap.size, j, none⟩ := by unfold Addr.add; split <;> simp_all
  rw [hadd, cell_at (heap_alloc_new w _)]
  simpa using hu

set_option maxHeartbeats 6400000 in
set_option maxRecDepth 1000000 in
theorem byName_one {P i b n : Nat} {qs : List Qv} {q : Qv} {D : DataW Unit} {cs : List Comp} {w : World} (h : All (mapC b n D :: blkC P (flat qs) 122 :: cs) w) (hq : qs[i]? = some q) (hgv : q.gv = .map (some b)) (hn : n ≤ 1048576) {x0 : List UInt8} (hD : ∀ x, Maps.has D (.string x) = true ↔ x = x0) :
    Calls Tryz.prog 115 #[.pointer (some ⟨P, i * 4, none⟩)] w fun e w' => ∃ v, e = .returned v ∧ All (rowG v [(x0, leftD D (.string x0))] :: mapC b n D :: blkC P (flat qs) 122 :: cs) w' := by
  obtain ⟨i0, hi, hz0, hz1, hz2⟩ := info_parts Tryz.info164
  have c0 := h.q3 mem2 hq
  rw [hgv] at c0
  have HO : w.ownsMap Tryz.prog 9 rE b n D := h.1.2.1
  have hsz := HO.size_le
  have H := hid h
  have HD := hid hD
  clear h hq hgv hD
  go_enter Tryz.func115, Tryz.ntmps115
  go_wp2_with (first | (at_range; refine wpList_range_own _ rfl _ 117 rfl 9 3 lawS Tryz.und117 _ b n D rfl HO ?_; intro w0 hrg0 hg0 hs0) | go_in)
  have A0 := hid ((H.out.it_start hg0 hs0 hrg0).addNilG)
  have T0 := hid (Coll.start D)
  clear H HO hrg0 hg0 hs0 c0
  generalize w.heap.size = r at *
  go_frame
  go_loopw [3] (fun ov wr => ∃ (left : Lit → Bool) (cnt : Nat) (gs : List (List UInt8 × Int)), Hid (Coll D left cnt gs) ∧ Hid (All (rowG ov gs :: itC b r n D left cnt :: blkC P (flat qs) 122 :: cs) wr)) (fun _ wr => wr.rangeLeft b r)
  case atStart => exact ⟨_, _, [], T0, A0⟩
  case round =>
    obtain ⟨left, cnt, gs, TR, AR⟩ := hrel
    clear T0 A0
    have hrg : wr.ranges Tryz.prog 9 rE b r n D left cnt := AR.out.2.2.1.2.1
    have hsl : gs.length ≤ 1048576 := by
      have := TR.out.size
      omega
    obtain ⟨oa, oc, hoe⟩ := owns_form (AR.out.1.2.1 : wr.ownsRow 0 164 2 _ gs.length (cellsG gs))
    subst hoe
    have HRG := hid hrg
    go_wp2_with (at_next; refine wpList_next_ranges _ rfl _ rfl 9 lawS rE encStr (Value.int .i64) invK9 invV3 b r n _ _ _ rfl hrg ?_ ?_)
    · intro hc0 hl0
      have hle : left = fun _ => false := funext hl0
      subst hle
      have eg := TR.out.one HD.out
      subst eg
      clear hc0 hl0 hrg HRG TR
      go_wp2_with fail
      refine (sort_one _ _ _).mono ?_
      rintro e w2 ⟨rfl, rfl⟩
      go_wp2
      go_ret
      exact ⟨_, rfl, (AR.out.swap.it_end).swap⟩
    · intro x c kl yd yp w1 cnt1 hkey hlk hv hat hrg1 hlt hg1 hs1 hen
      obtain ⟨x', ex, rfl, hxl⟩ := keyS_inv hkey
      obtain rfl : x = x' := strB_inj (by simpa [encStr] using ex)
      obtain ⟨c', ec, ey, hwc⟩ := plainElem_int_inv Tryz.underlying3 hv
      cases ec
      simp only [Prod.mk.injEq] at ey
      have hkl : WideAt.IsKeyLit (.string x) := lawS.key hkey
      have hcv : c = leftD D (.string x) := by
        unfold leftD
        rw [hat, ey.1]
      have A1 := hid (AR.out.swap.it_turn (Or.inr rfl) hg1 hrg1).swap
      have hown : w1.ownsRow 0 164 2 (.slice oa gs.length oc) gs.length (cellsG gs) := A1.out.1.2.1
      have C1 := hid (TR.out.next hkl hlk hlt)
      have M1 := hid (show w1.rangeLeft b r < wr.rangeLeft b r from by rw [hrg1.left_eq, HRG.out.left_eq]; exact hlt)
      have HCV := hid hcv
      clear ex hs1 hg1 AR hrg hkl hat hv ey hlk hcv hkey hrg1 TR HRG
      go_wp2_with (at_builtin; refine wpList_append_own_at _ rfl (.tmp 16) (.tmp 20) 124 rfl 0 164 i0 (.agg #[.string ⟨#[]⟩, .int .i64 0]) 2 24 Tryz.und124 hi hz0 hz1 hz2 rfl (by decide) _ _ _ rfl (hown.alloc _) ⟨w1.heap.size, 0, none⟩ 1 1 [encStr x, .int .i64 c] rfl rfl (fun j u hu => news_new _ #[encStr x, .int .i64 c] 164 j u hu) (fun u hu => by simp at hu; rcases hu with rfl | rfl <;> rfl) (by unfold maxLen; omega) (by omega) (by omega) ?_)
      intro v' w2 hown2 hgr2 hnil hat2
      have hlen2 : (gs ++ [(x, leftD D (.string x))]).length = gs.length + 1 := by simp
      have ecell : cellsG gs ++ [encStr x, .int .i64 c] = cellsG (gs ++ [(x, leftD D (.string x))]) := by simp [cellsG, HCV.out]
      rw [ecell] at hown2
      have A2 := hid ((A1.out.alloc (.cells #[encStr x, .int .i64 c] 164)).growG (gs' := gs ++ [(x, leftD D (.string x))]) (by rw [hlen2]; exact hown2) hgr2 (by simpa using hat2))
      obtain ⟨oa', oc', eo⟩ := owns_form hown2
      have M2 := hid (show w2.rangeLeft b r < wr.rangeLeft b r from by
        have h2 : w2.ranges Tryz.prog 9 rE b r n D (fun z => left z && !z.sameKey (.string x)) cnt1 := A2.out.2.2.1.2.1
        have h1 : w1.ranges Tryz.prog 9 rE b r n D (fun z => left z && !z.sameKey (.string x)) cnt1 := A1.out.2.2.1.2.1
        rw [h2.left_eq, ← h1.left_eq]; exact M1.out)
      subst eo
      clear hown2 hgr2 hnil hat2 ecell hlen2 hown A1 M1
      go_wp2
      go_roundw
      case rel => exact ⟨_, _, _, C1, A2⟩
      case measure => exact M2.out
end Go.Proofs.YtkcepkehgkkkbaaGreatDoor

namespace Go.Proofs.YtkcepkehgkkkbaaGreatDoor
open Go.RowKit
set_option linter.unusedVariables false

/-- A writer, as a part. -/
def wrC (b : Nat) (v : Value) (st : Option (List UInt8)) : Comp := ⟨fun w => Wst w b v st, b :: v.ownBlock.toList⟩
theorem wrC_good (b : Nat) (v : Value) (st : Option (List UInt8)) : (wrC b v st).Good := fun w w' h _ hk =>
  Wst.kept h (hk b (by simp [wrC])) (fun k hk' => hk k (by simp [wrC, hk']))
theorem All.wstep {b : Nat} {v v' : Value} {st st' : Option (List UInt8)} {cs : List Comp} {w w' : World} (h : All (wrC b v st :: cs) w) (h1 : Wst w' b v' st') (h2 : WStep b w v w' v') : All (wrC b v' st' :: cs) w' := by
  refine h.turn ⟨h2.os, h2.tape, h2.output, h2.size, fun k hk hn => ?_⟩ (wrC_good _ _ _) h1 (fun k hk => ?_) (fun k hk => ?_)
  · simp [wrC] at hn
    exact h2.block k hk hn.1 (fun e => hn.2 e.symm)
  · simp [wrC] at hk
    rcases hk with rfl | hk
    · exact Or.inl (by simp [wrC])
    · rcases h2.own k hk with e | e
      · exact Or.inl (by simp [wrC, e])
      · exact Or.inr e
  · simp [wrC] at hk
    rcases hk with rfl | hk
    · exact h1.lt
    · exact (h1.own_lt k hk).2

theorem newW {cs : List Comp} {w : World} (h : All cs w) : Calls Tryz.prog 26 #[] w fun e w' => ∃ b, e = .returned (.pointer (some ⟨b, 0, none⟩)) ∧ All (wrC b (.slice none 0 0) (some []) :: cs) w' :=
  (NewWriter_any w).mono fun e w' ⟨h1, h2, h3⟩ => ⟨_, h1, h.add (Fr.below h3) (wrC_good _ _ _) h2 (fun k hk => by
    have hk' : k = w.heap.size := by simpa [wrC, Value.ownBlock] using hk
    subst hk'
    exact ⟨Nat.le_refl _, h2.lt⟩)⟩
theorem textW {b : Nat} {v : Value} {st : Option (List UInt8)} {cs : List Comp} {w : World} (h : All (wrC b v st :: cs) w) (s : ByteArray) (hlen : lenS st + s.size + 10 ≤ 140737488355328) : Calls Tryz.prog 67 #[.pointer (some ⟨b, 0, none⟩), .string s] w fun e w' => e = .returned (.tuple #[]) ∧ ∃ v', All (wrC b v' (addS st (enc 9 s.size ++ s.data.toList)) :: cs) w' :=
  (text_any h.1.2.1 s hlen).mono fun e w' ⟨h1, v', h2, h3⟩ => ⟨h1, v', h.wstep h2 h3⟩
theorem numW {b : Nat} {v : Value} {st : Option (List UInt8)} {cs : List Comp} {w : World} (h : All (wrC b v st :: cs) w) (n : Int) (hn : n < 9223372036854775808) (hlen : lenS st + 10 ≤ 140737488355328) : Calls Tryz.prog 66 #[.pointer (some ⟨b, 0, none⟩), .int .i64 n] w fun e w' => e = .returned (.tuple #[]) ∧ ∃ v', All (wrC b v' (numS st n) :: cs) w' :=
  (num_any h.1.2.1 n hn hlen).mono fun e w' ⟨h1, v', h2, h3⟩ => ⟨h1, v', h.wstep h2 h3⟩
theorem numS_nat (st : Option (List UInt8)) (n : Nat) : numS st (n : Int) = addS st (enc 9 n) := by unfold numS; rw [if_neg (by omega)]; simp
theorem natW {b : Nat} {v : Value} {st : Option (List UInt8)} {cs : List Comp} {w : World} (h : All (wrC b v st :: cs) w) (n : Nat) (hn : n < 9223372036854775808) (hlen : lenS st + 10 ≤ 140737488355328) : Calls Tryz.prog 66 #[.pointer (some ⟨b, 0, none⟩), .int .i64 (n : Int)] w fun e w' => e = .returned (.tuple #[]) ∧ ∃ v', All (wrC b v' (addS st (enc 9 n)) :: cs) w' := by
  have := numW h (n : Int) (by omega) hlen
  rw [numS_nat] at this
  exact this
theorem doneW {b : Nat} {v : Value} {bs : List UInt8} {cs : List Comp} {w : World} (h : All (wrC b v (some bs) :: cs) w) (hlen : bs.length ≤ 140737488355328) : Calls Tryz.prog 29 #[.pointer (some ⟨b, 0, none⟩)] w fun e w' => ∃ so sc, e = .returned (.tuple #[.slice so bs.length sc, .int .i64 0]) ∧ All (ownC 5 (.slice so bs.length sc) (cellsB bs) :: wrC b v (some bs) :: cs) w' :=
  (done_whole h.1.2.1 hlen).mono fun e w' ⟨s', h1, h2, h3⟩ => by
    obtain ⟨so, sc, rfl⟩ := owns_form h2
    exact ⟨so, sc, h1, h.addOwn h3 (by rw [cellsB_length]; exact h2)⟩

/-- What texts are as bytes. -/
def textsB (l : List ByteArray) : List UInt8 := l.flatMap fun t => enc 9 t.size ++ t.data.toList
def itemsB (l : List ByteArray) : List UInt8 := enc 9 l.length ++ textsB l
theorem textsB_take {l : List ByteArray} {k : Nat} (hk : k < l.length) : textsB (l.take (k + 1)) = textsB (l.take k) ++ (enc 9 l[k].size ++ l[k].data.toList) := by
  rw [List.take_succ_eq_append_getElem hk, textsB, List.flatMap_append]; simp [textsB]

/-- All that is bounded: a list's texts, each with what stands ahead of it. -/
def bulkT (l : List ByteArray) : Nat := (l.map fun t => t.size + 10).sum
theorem bulkT_take {l : List ByteArray} {k : Nat} (hk : k < l.length) : (textsB (l.take k)).length + (l[k].size + 10) ≤ bulkT l := by
  induction l generalizing k with
  | nil => simp at hk
  | cons t l ih =>
    cases k with
    | zero => simp [textsB, bulkT]
    | succ k =>
      have := ih (k := k) (by simpa using hk)
      have he := enc_len 9 t.size
      simp only [List.take_succ_cons, textsB, List.flatMap_cons, List.length_append, bulkT, List.map_cons, List.sum_cons, List.getElem_cons_succ, ByteArray.size, Array.length_toList] at *
      omega

set_option maxHeartbeats 1600000 in
set_option maxRecDepth 1000000 in
theorem putItems_any {b : Nat} {v : Value} {st : Option (List UInt8)} {s : Value} {l : List ByteArray} {cs : List Comp} {w : World} (h : All (wrC b v st :: cs) w) (hT : ∀ w', All cs w' → Txts w' s l) (hlen : lenS st + bulkT l + 30 ≤ 140737488355328) (hl : l.length ≤ 1099511627776) :
    Calls Tryz.prog 68 #[.pointer (some ⟨b, 0, none⟩), s] w fun e w' => e = .returned (.tuple #[]) ∧ ∃ v', All (wrC b v' (addS st (itemsB l)) :: cs) w' := by
  obtain ⟨ao, c, rfl⟩ := (hT w h.tail).form
  have HH := hid h
  have HT := hid hT
  clear h hT
  go_enter Tryz.func68, Tryz.ntmps68
  go_wp2_with fail
  refine (natW HH.out l.length (by omega) (by omega)).mono ?_
  rintro e w1 ⟨rfl, v1, A1⟩
  have A1 := hid A1
  clear HH
  go_wp2
  go_loopw [12] (fun iv wr => ∃ (k : Nat) (v' : Value), iv = .int .i64 (k : Int) ∧ k ≤ l.length ∧ Hid (All (wrC b v' (addS st (enc 9 l.length ++ textsB (l.take k))) :: cs) wr)) (fun iv _ => l.length - (intOf iv).toNat)
  case atStart => exact ⟨0, v1, rfl, Nat.zero_le _, by simpa [textsB] using A1⟩
  case round =>
    obtain ⟨k, v', rfl, hk, AR⟩ := hrel
    clear A1
    by_cases hlt : k < l.length
    · obtain ⟨g, o, ea, hg, hcell⟩ := (HT.out wr AR.out.tail).at hlt
      subst ea
      have el : decide ((k : Int) < (l.length : Int)) = true := by simpa using hlt
      have HB : Hid (lenS (addS st (enc 9 l.length ++ textsB (l.take k))) + l[k].size + 10 ≤ 140737488355328) := by
        have h1 := lenS_addS st (enc 9 l.length ++ textsB (l.take k))
        have h2 := bulkT_take hlt
        have h3 := enc_len 9 l.length
        rw [List.length_append] at h1
        show _ ≤ _
        omega
      go_wp2_with fail
      refine (textW AR.out _ HB.out).mono ?_
      rintro e w2 ⟨rfl, v2, A2⟩
      rw [addS_addS, List.append_assoc, ← textsB_take hlt] at A2
      have A2 := hid A2
      clear AR HB
      go_wp2
      go_roundw
      case rel => exact ⟨k + 1, v2, by go_num, by omega, A2⟩
      case measure => simp [intOf]; omega
    · have el : decide ((k : Int) < (l.length : Int)) = false := by simp; omega
      go_wp2
      go_end0
      refine ⟨rfl, v', ?_⟩
      have := AR.out
      rw [List.take_of_length_le (by omega)] at this
      exact this
end Go.Proofs.YtkcepkehgkkkbaaGreatDoor

namespace Go.Proofs.YtkcepkehgkkkbaaGreatDoor
open Go.RowKit
set_option linter.unusedVariables false

theorem cellsG_at {gs : List (List UInt8 × Int)} {k : Nat} (hk : k < gs.length) : (cellsG gs)[k * 2]? = some (encStr gs[k].1) ∧ (cellsG gs)[k * 2 + 1]? = some (.int .i64 gs[k].2) := by
  induction gs generalizing k with
  | nil => simp at hk
  | cons g gs ih =>
    cases k with
    | zero => simp [cellsG]
    | succ k =>
      have := ih (k := k) (by simpa using hk)
      have e : (k + 1) * 2 = k * 2 + 1 + 1 := by omega
      rw [e]
      simpa [cellsG] using this
theorem cellsG_len (gs : List (List UInt8 × Int)) : (cellsG gs).length = gs.length * 2 := by
  induction gs with
  | nil => rfl
  | cons g gs ih => simp [cellsG] at ih ⊢; omega
theorem rowG_at {w : World} {ao : Option Addr} {n c : Nat} {gs : List (List UInt8 × Int)} (h : w.ownsRow 0 164 2 (.slice ao n c) gs.length (cellsG gs)) {k : Nat} (hk : k < gs.length) : ∃ g, ao = some ⟨g, 0, none⟩ ∧ g < w.heap.size ∧ w.cell? ⟨g, k * 2, none⟩ = some (encStr gs[k].1) ∧ w.cell? ⟨g, k * 2 + 1, none⟩ = some (.int .i64 gs[k].2) := by
  rcases h.2 with ⟨e, e2⟩ | ⟨g, cap, cur, e, _, hg, hn, hm, hcs, ht⟩
  · omega
  · simp only [Value.slice.injEq] at e
    obtain ⟨h1, h2⟩ := cellsG_at hk
    rw [← ht, List.getElem?_take, if_pos (by omega)] at h1
    rw [← ht, List.getElem?_take, if_pos (by omega)] at h2
    refine ⟨g, e.1, (Array.getElem?_eq_some_iff.1 hg).1, ?_, ?_⟩
    · rw [cell_at hg, ← Array.getElem?_toList]; exact h1
    · rw [cell_at hg, ← Array.getElem?_toList]; exact h2

/-- Groups as bytes. -/
def groupsB (gs : List (List UInt8 × Int)) : List UInt8 := gs.flatMap fun g => (enc 9 g.1.length ++ g.1) ++ enc 9 g.2.toNat
theorem groupsB_take {gs : List (List UInt8 × Int)} {k : Nat} (hk : k < gs.length) : groupsB (gs.take (k + 1)) = groupsB (gs.take k) ++ ((enc 9 gs[k].1.length ++ gs[k].1) ++ enc 9 gs[k].2.toNat) := by
  rw [List.take_succ_eq_append_getElem hk, groupsB, List.flatMap_append]; simp [groupsB]
theorem groupsB_len {gs : List (List UInt8 × Int)} (hb : ∀ g ∈ gs, g.1.length ≤ 1048576) : (groupsB gs).length ≤ gs.length * 1048600 := by
  induction gs with
  | nil => simp [groupsB]
  | cons g gs ih =>
    have h1 := ih (fun x hx => hb x (by simp [hx]))
    have h2 := hb g (by simp)
    have h3 := enc_len 9 g.1.length
    have h4 := enc_len 9 g.2.toNat
    simp only [groupsB, List.flatMap_cons, List.length_append, List.length_cons] at h1 ⊢
    omega

/-- A slot's bytes. -/
def slotB (nm : ByteArray) (first : Nat) (items : List ByteArray) (gs : List (List UInt8 × Int)) : List UInt8 :=
  (enc 9 nm.size ++ nm.data.toList) ++ (enc 9 first ++ (itemsB items ++ (enc 9 gs.length ++ groupsB gs)))

theorem txts_of {e : TypeId} {ao : Option Addr} {n c : Nat} {l : List ByteArray} {cs : List Comp} {w : World} (h : All cs w) (hm : ownC 9 (.slice ao n c) (txtV l) ∈ cs) : Txts w (.slice ao n c) l := by
  have hrow : w.ownsRow 0 9 1 (.slice ao n c) (txtV l).length (txtV l) := (h.mem hm).2.1
  obtain ⟨h1, h2⟩ := owns_len hrow
  rw [List.length_map] at h1 h2
  subst h1
  refine ⟨ao, c, rfl, h2, ?_⟩
  cases l with
  | nil => exact Or.inl rfl
  | cons t l =>
    right
    obtain ⟨g, ea, _, _⟩ := owns_at hrow (k := 0) (u := .string t) rfl
    refine ⟨g, 0, ea, (h.mem hm).2.2 g (by rw [ea]; simp [ownC, Value.ownBlock]), fun j hj => ?_⟩
    obtain ⟨g', ea', hc, _⟩ := owns_at hrow (k := j) (u := .string (t :: l)[j]) (by rw [List.getElem?_map, List.getElem?_eq_getElem hj]; rfl)
    rw [ea] at ea'
    cases ea'
    rw [Nat.zero_add]
    exact hc
end Go.Proofs.YtkcepkehgkkkbaaGreatDoor

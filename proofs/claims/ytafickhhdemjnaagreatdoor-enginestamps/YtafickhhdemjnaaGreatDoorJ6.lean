import Derived.Test.YtafickhhdemjnaaGreatDoorJ5
import Derived.Test.YtafickhhdemjnaaGreatDoorJ3
import Derived.Maps.RangeWalk
import Derived.Maps.Ext
import Derived.Shelf.Slices.Delete
import Derived.Test.YtafickhhdemjnaaGreatDoorProg
namespace Go.Proofs.YtafickhhdemjnaaGreatDoor
open Go.RowKit
set_option linter.unusedVariables false

/-- A list of one element is sorted as it is. -/
theorem ins_one {w : World} (s f : Value) : Calls Tryz.prog 237 #[s, .int .i64 0, .int .i64 1, f] w fun e w' => e = .returned (.tuple #[]) ∧ w' = w := by
  go_enter Tryz.func237, Tryz.ntmps237
  go_wp2
  go_loopw [8] (fun iv wr => iv = .int .i64 1 ∧ wr = w) (fun _ _ => 0)
  case atStart => exact ⟨rfl, rfl⟩
  case round =>
    obtain ⟨rfl, rfl⟩ := hrel
    go_wp2
    go_end0
    exact ⟨rfl, rfl⟩

set_option maxRecDepth 1000000 in
theorem len_one {w : World} : Calls Tryz.prog 236 #[.int .u64 1] w fun e w' => e = .returned (.int .i64 1) ∧ w' = w := by
  go_enter Tryz.func236, Tryz.ntmps236
  go_wp2
  go_ret
  exact ⟨by kernel_rfl, rfl⟩
theorem Len_one {w : World} : Calls Tryz.prog 221 #[.int .u64 1] w fun e w' => e = .returned (.int .i64 1) ∧ w' = w := by
  go_enter Tryz.func221, Tryz.ntmps221
  go_wp2_with fail
  refine len_one.mono ?_
  rintro e w1 ⟨rfl, rfl⟩
  go_wp2
  go_ret
  exact ⟨rfl, rfl⟩
theorem pdq_one {w : World} (s f : Value) : Calls Tryz.prog 222 #[s, .int .i64 0, .int .i64 1, .int .i64 1, f] w fun e w' => e = .returned (.tuple #[]) ∧ w' = w := by
  go_enter Tryz.func222, Tryz.ntmps222
  go_wp2
  go_loopw [1, 2] (fun av bv wr => av = .int .i64 0 ∧ bv = .int .i64 1 ∧ wr = w) (fun _ _ _ => 0)
  case atStart => exact ⟨rfl, rfl, rfl⟩
  case round =>
    obtain ⟨rfl, rfl, rfl⟩ := hrel
    go_wp2_with fail
    refine (ins_one _ _).mono ?_
    rintro e w1 ⟨rfl, rfl⟩
    go_wp2
    refine bodyPost_ret (results_none rfl _ _ _) rfl ?_
    exact ⟨rfl, rfl⟩
theorem sort_one {w : World} (ao : Option Addr) (c : Nat) (f : Value) : Calls Tryz.prog 211 #[.slice ao 1 c, f] w fun e w' => e = .returned (.tuple #[]) ∧ w' = w := by
  go_enter Tryz.func211, Tryz.ntmps211
  go_wp2_with fail
  refine Len_one.mono ?_
  rintro e w1 ⟨rfl, rfl⟩
  go_wp2_with fail
  refine (pdq_one _ _).mono ?_
  rintro e w1 ⟨rfl, rfl⟩
  go_wp2
  go_end0
  exact ⟨rfl, rfl⟩
end Go.Proofs.YtafickhhdemjnaaGreatDoor

namespace Go.Proofs.YtafickhhdemjnaaGreatDoor
open Go.RowKit
open Go.Maps (Keyed)
set_option linter.unusedVariables false

abbrev encStr (x : List UInt8) : Value := .string (strB x)
/-- Groups as they lie in a list. -/
def cellsG (gs : List (List UInt8 × Int)) : List Value := gs.flatMap fun g => [encStr g.1, .int .i64 g.2]
def rowG (v : Value) (gs : List (List UInt8 × Int)) : Comp := ⟨fun w => w.ownsRow 0 214 2 v gs.length (cellsG gs), v.ownBlock.toList⟩
theorem rowG_good (v : Value) (gs : List (List UInt8 × Int)) : (rowG v gs).Good := by
  rintro w w' ⟨h1, h2⟩ hl hk
  refine ⟨h1, h2.imp id ?_⟩
  rintro ⟨g, cap, cur, rfl, hb, hg, r⟩
  exact ⟨g, cap, cur, rfl, hb, (hk g (by simp [rowG, Value.ownBlock])).trans hg, r⟩
theorem All.addNilG {cs : List Comp} {w : World} (h : All cs w) : All (rowG (.slice none 0 0) [] :: cs) w :=
  ⟨⟨rowG_good _ _, ⟨by simp [cellsG], Or.inl ⟨rfl, rfl⟩⟩, fun k hk => by simp [rowG, Value.ownBlock] at hk⟩, fun d hd k hk => by simp [rowG, Value.ownBlock] at hk, h⟩
theorem owns_zero2 {w : World} {base : Nat} {v : Value} {n : Nat} {xs : List Value} (h : w.ownsRow base 214 2 v n xs) : w.ownsRow 0 214 2 v n xs := owns_zero h
theorem All.growG {v v' : Value} {gs gs' : List (List UInt8 × Int)} {cs : List Comp} {w w1 : World} {base : Nat} (h : All (rowG v gs :: cs) w) (hown : w1.ownsRow base 214 2 v' gs'.length (cellsG gs')) (hg : w.grownBy w1 v.ownBlock) (hat : v'.ownBlock = v.ownBlock ∨ v'.ownBlock = some w.heap.size) : All (rowG v' gs' :: cs) w1 := by
  have ho' := owns_zero2 hown
  refine h.turn ((grown_fr hg).mono (fun k hk => by simpa [rowG] using hk)) (rowG_good _ _) ho' (fun k hk => ?_) (fun k hk => ?_)
  · have hk' : v'.ownBlock = some k := by simpa [rowG] using hk
    rcases hat with e1 | e1
    · exact Or.inl (by simp [rowG, ← e1, hk'])
    · rw [e1] at hk'; simp at hk'; exact Or.inr (by omega)
  · have hk' : v'.ownBlock = some k := by simpa [rowG] using hk
    exact (ho'.lt k hk').2

/-- A loop over a map, as a part. -/
def itC (b r n : Nat) (D : DataW Unit) (left : Lit → Bool) (cnt : Nat) : Comp := ⟨fun w => w.ranges Tryz.prog 9 rE b r n D left cnt, [b, r]⟩
theorem itC_good (b r n : Nat) (D : DataW Unit) (left : Lit → Bool) (cnt : Nat) : (itC b r n D left cnt).Good := by
  rintro w w' ⟨es, clock, since, seen, c0, hb, F, hs, hD, hr, rest⟩ hl hk
  exact ⟨es, clock, since, seen, c0, (hk b (by simp [itC])).trans hb, F, hs, hD, (hk r (by simp [itC])).trans hr, rest⟩
theorem All.it_turn {b r n : Nat} {D D' : DataW Unit} {left left' : Lit → Bool} {cnt cnt' : Nat} {cs : List Comp} {w w' : World} {j : Nat} (h : All (itC b r n D left cnt :: cs) w) (hj : j = b ∨ j = r) (hg : w.grownBy w' (some j)) (hr : w'.ranges Tryz.prog 9 rE b r n D' left' cnt') : All (itC b r n D' left' cnt' :: cs) w' := by
  refine h.turn ((grown_fr hg).mono (fun k hk => by simp at hk; subst hk; rcases hj with rfl | rfl <;> simp [itC])) (itC_good _ _ _ _ _ _) hr (fun k hk => Or.inl (by simpa [itC] using hk)) (fun k hk => ?_)
  have hk' : k = b ∨ k = r := by simpa [itC] using hk
  rcases hk' with rfl | rfl
  · exact hr.owns.lt
  · exact hr.lt
/-- The loop begins. -/
theorem All.it_start {b n : Nat} {D : DataW Unit} {cs : List Comp} {w w' : World} (h : All (mapC b n D :: cs) w) (hg : w.grownBy w' none) (hs : w'.heap.size = w.heap.size + 1) (hr : w'.ranges Tryz.prog 9 rE b w.heap.size n D (Maps.has D) (Maps.size D)) : All (itC b w.heap.size n D (Maps.has D) (Maps.size D) :: cs) w' := by
  have hbel : Below w.heap.size w w' := ⟨hg.os, hg.tape, hg.output, hg.size, fun k hk => hg.block k hk (by simp)⟩
  have h' := h.later hbel
  have hb : b < w.heap.size := h.1.2.2 b (by simp [mapC])
  refine ⟨⟨itC_good _ _ _ _ _ _, hr, fun k hk => ?_⟩, fun d hd k hk hkd => ?_, h'.2.2⟩
  · have hk' : k = b ∨ k = w.heap.size := by simpa [itC] using hk
    rcases hk' with rfl | rfl <;> omega
  · have hk' : k = b ∨ k = w.heap.size := by simpa [itC] using hk
    rcases hk' with rfl | rfl
    · exact h.2.1 d hd k (by simp [mapC]) hkd
    · have := (h.2.2.mem hd).2.2 _ hkd
      omega
/-- The loop is over. -/
theorem All.it_end {b r n : Nat} {D : DataW Unit} {left : Lit → Bool} {cnt : Nat} {cs : List Comp} {w : World} (h : All (itC b r n D left cnt :: cs) w) : All (mapC b n D :: cs) w := by
  obtain ⟨⟨g1, h1, l1⟩, d1, h3⟩ := h
  refine ⟨⟨mapC_good _ _ _, h1.owns, fun k hk => ?_⟩, fun d hd k hk hkd => ?_, h3⟩
  · have : k = b := by simpa [mapC] using hk
    subst this
    exact l1 _ (by simp [itC])
  · have : k = b := by simpa [mapC] using hk
    subst this
    exact d1 d hd _ (by simp [itC]) hkd

theorem has_struck {left : Lit → Bool} {kl : Lit} (hk : WideAt.IsKeyLit kl) : (left kl && !kl.sameKey kl) = false := by
  rw [WideAt.sameKey_self hk]; simp
theorem left_struck {left : Lit → Bool} {kl x : Lit} (h : x ≠ kl) : (left x && !x.sameKey kl) = left x := by
  rw [Maps.sameKey_ne h]; simp

/-- The entries that have been told so far. -/
structure Coll (D : DataW Unit) (left : Lit → Bool) (cnt : Nat) (gs : List (List UInt8 × Int)) : Prop where
  mem : ∀ x c, (x, c) ∈ gs ↔ (Maps.has D (.string x) = true ∧ left (.string x) = false ∧ c = leftD D (.string x))
  nodup : (gs.map Prod.fst).Nodup
  lt : ∀ kl, left kl = true → Maps.has D kl = true
  size : gs.length + cnt ≤ Maps.size D

theorem Coll.start (D : DataW Unit) : Coll D (Maps.has D) (Maps.size D) [] := by
  refine ⟨fun x c => ?_, List.nodup_nil, fun kl h => h, by simp⟩
  constructor
  · intro h; cases h
  · rintro ⟨h1, h2, _⟩; rw [h1] at h2; cases h2
theorem Coll.next {D : DataW Unit} {left : Lit → Bool} {cnt cnt' : Nat} {gs : List (List UInt8 × Int)} (h : Coll D left cnt gs) {x : List UInt8} (hk : WideAt.IsKeyLit (.string x)) (hl : left (.string x) = true) (hc : cnt' < cnt) : Coll D (fun z => left z && !z.sameKey (.string x)) cnt' (gs ++ [(x, leftD D (.string x))]) := by
  have hni : ∀ c, (x, c) ∉ gs := fun c hm => by
    have := ((h.mem x c).1 hm).2.1
    rw [hl] at this
    cases this
  refine ⟨fun y c => ?_, ?_, fun z hz => h.lt z (by simp at hz; exact hz.1), ?_⟩
  · rw [List.mem_append, List.mem_singleton]
    by_cases e : y = x
    · subst e
      simp only [has_struck hk, Prod.mk.injEq, true_and]
      constructor
      · rintro (hm | rfl)
        · exact absurd hm (hni c)
        · exact ⟨h.lt _ hl, rfl⟩
      · rintro ⟨_, rfl⟩
        exact Or.inr rfl
    · have e' : Lit.string y ≠ .string x := fun h => e (by injection h)
      simp only [left_struck e', Prod.mk.injEq, e, false_and, or_false]
      exact h.mem y c
  · rw [List.map_append, List.nodup_append]
    refine ⟨h.nodup, by simp, fun a ha b hb eab => ?_⟩
    simp at hb
    subst hb
    subst eab
    obtain ⟨p, hp, e⟩ := List.mem_map.1 ha
    exact hni p.2 (by rw [← e]; exact hp)
  · have := h.size
    rw [List.length_append, List.length_singleton]
    omega

/-- Just one entry. -/
theorem Coll.one {D : DataW Unit} {cnt : Nat} {gs : List (List UInt8 × Int)} (h : Coll D (fun _ => false) cnt gs) {x0 : List UInt8} (hD : ∀ x, Maps.has D (.string x) = true ↔ x = x0) : gs = [(x0, leftD D (.string x0))] := by
  have hall : ∀ g ∈ gs, g = (x0, leftD D (.string x0)) := by
    rintro ⟨x, c⟩ hm
    obtain ⟨h1, _, h3⟩ := (h.mem x c).1 hm
    have := (hD x).1 h1
    subst this
    rw [h3]
  have hin : (x0, leftD D (.string x0)) ∈ gs := (h.mem _ _).2 ⟨(hD x0).2 rfl, rfl, rfl⟩
  cases gs with
  | nil => cases hin
  | cons g gs =>
    have hg := hall g (by simp)
    subst hg
    cases gs with
    | nil => rfl
    | cons g' gs =>
      have hg' := hall g' (by simp)
      subst hg'
      have := h.nodup
      simp at this
end Go.Proofs.YtafickhhdemjnaaGreatDoor

namespace Go.Proofs.YtafickhhdemjnaaGreatDoor
open Go.RowKit
open Go.Maps (Keyed)
set_option linter.unusedVariables false

theorem Tryz.info214 : (Tryz.prog.info? 214).map (fun i => (i.zero, i.size, i.bytes)) = some (some (.agg #[.string ⟨#[]⟩, .int .i64 0]), 2, 24) := by kernel_rfl
theorem Tryz.und116 : Tryz.prog.underlying 116 = some (.slice 214) := by kernel_rfl

theorem keyS_inv {key : Value} {kl : Lit} (h : keyOf Tryz.prog 9 key = some kl) : ∃ x : List UInt8, key = encStr x ∧ kl = .string x ∧ x.length ≤ maxLen := by
  cases key <;> simp [keyOf, Tryz.underlying9, mapKey] at h
  rename_i s
  obtain ⟨h1, rfl⟩ := h
  exact ⟨s.data.toList, by simp [encStr, strB], rfl, h1⟩
theorem invK9 : ∀ key kl, keyOf Tryz.prog 9 key = some kl → ∃ x, key = encStr x := fun key kl hk => by
  obtain ⟨x, hx, _⟩ := keyS_inv hk
  exact ⟨x, hx⟩
theorem invV3 : ∀ (v : Value) (y : DataW Unit × List MemPlace), rE v = some y → ∃ c, v = Value.int .i64 c := fun v y hv => by
  obtain ⟨c, rfl, _⟩ := plainElem_int_inv Tryz.underlying3 hv
  exact ⟨c, rfl⟩
theorem strB_inj {x y : List UInt8} (h : strB x = strB y) : x = y := by
  have := congrArg (fun b : ByteArray => b.data.toList) h
  simpa [strB] using this

theorem news_new (w : World) (cs : Array Value) (t : TypeId) (j : Nat) (u : Value) (hu : cs.toList[j]? = some u) : (w.alloc (.cells cs t)).cell? ((⟨w.heap.size, 0, none⟩ : Addr).add j) = some u := by
  have hadd : (⟨w.heap.size, 0, none⟩ : Addr).add j = ⟨w.heap.size, j, none⟩ := by unfold Addr.add; split <;> simp_all
  rw [hadd, cell_at (heap_alloc_new w _)]
  simpa using hu

set_option maxHeartbeats 6400000 in
set_option maxRecDepth 1000000 in
theorem byName_one {P i b n : Nat} {qs : List Qv} {q : Qv} {D : DataW Unit} {cs : List Comp} {w : World} (h : All (mapC b n D :: blkC P (flat qs) 159 :: cs) w) (hq : qs[i]? = some q) (hgv : q.gv = .map (some b)) (hn : n ≤ 1048576) {x0 : List UInt8} (hD : ∀ x, Maps.has D (.string x) = true ↔ x = x0) :
    Calls Tryz.prog 191 #[.pointer (some ⟨P, i * 4, none⟩)] w fun e w' => ∃ v, e = .returned v ∧ All (rowG v [(x0, leftD D (.string x0))] :: mapC b n D :: blkC P (flat qs) 159 :: cs) w' := by
  obtain ⟨i0, hi, hz0, hz1, hz2⟩ := info_parts Tryz.info214
  have c0 := h.q3 mem2 hq
  rw [hgv] at c0
  have HO : w.ownsMap Tryz.prog 9 rE b n D := h.1.2.1
  have hsz := HO.size_le
  have H := hid h
  have HD := hid hD
  clear h hq hgv hD
  go_enter Tryz.func191, Tryz.ntmps191
  go_wp2_with (first | (at_range; refine wpList_range_own _ rfl _ 154 rfl 9 3 lawS Tryz.und154 _ b n D rfl HO ?_; intro w0 hrg0 hg0 hs0) | go_in)
  have A0 := hid ((H.out.it_start hg0 hs0 hrg0).addNilG)
  have T0 := hid (Coll.start D)
  clear H HO hrg0 hg0 hs0 c0
  generalize w.heap.size = r at *
  go_frame
  go_loopw [3] (fun ov wr => ∃ (left : Lit → Bool) (cnt : Nat) (gs : List (List UInt8 × Int)), Hid (Coll D left cnt gs) ∧ Hid (All (rowG ov gs :: itC b r n D left cnt :: blkC P (flat qs) 159 :: cs) wr)) (fun _ wr => wr.rangeLeft b r)
  case atStart => exact ⟨_, _, [], T0, A0⟩
  case round =>
    obtain ⟨left, cnt, gs, TR, AR⟩ := hrel
    clear T0 A0
    have hrg : wr.ranges Tryz.prog 9 rE b r n D left cnt := AR.out.2.2.1.2.1
    have hsl : gs.length ≤ 1048576 := by
      have := TR.out.size
      omega
    obtain ⟨oa, oc, hoe⟩ := owns_form (AR.out.1.2.1 : wr.ownsRow 0 214 2 _ gs.length (cellsG gs))
    subst hoe
    have HRG := hid hrg
    go_wp2_with (at_next; refine wpList_next_ranges _ rfl _ rfl 9 lawS rE encStr (Value.int .i64) invK9 invV3 b r n _ _ _ rfl hrg ?_ ?_)
    · intro hc0 hl0
      have hle : left = fun _ => false := funext hl0
      subst hle
      have eg := TR.out.one HD.out
      subst eg
      clear hc0 hl0 hrg HRG TR
      go_wp2_with fail
      refine (sort_one _ _ _).mono ?_
      rintro e w2 ⟨rfl, rfl⟩
      go_wp2
      go_ret
      exact ⟨_, rfl, (AR.out.swap.it_end).swap⟩
    · intro x c kl yd yp w1 cnt1 hkey hlk hv hat hrg1 hlt hg1 hs1 hen
      obtain ⟨x', ex, rfl, hxl⟩ := keyS_inv hkey
      obtain rfl : x = x' := strB_inj (by simpa [encStr] using ex)
      obtain ⟨c', ec, ey, hwc⟩ := plainElem_int_inv Tryz.underlying3 hv
      cases ec
      simp only [Prod.mk.injEq] at ey
      have hkl : WideAt.IsKeyLit (.string x) := lawS.key hkey
      have hcv : c = leftD D (.string x) := by
        unfold leftD
        rw [hat, ey.1]
      have A1 := hid (AR.out.swap.it_turn (Or.inr rfl) hg1 hrg1).swap
      have hown : w1.ownsRow 0 214 2 (.slice oa gs.length oc) gs.length (cellsG gs) := A1.out.1.2.1
      have C1 := hid (TR.out.next hkl hlk hlt)
      have M1 := hid (show w1.rangeLeft b r < wr.rangeLeft b r from by rw [hrg1.left_eq, HRG.out.left_eq]; exact hlt)
      have HCV := hid hcv
      clear ex hs1 hg1 AR hrg hkl hat hv ey hlk hcv hkey hrg1 TR HRG
      go_wp2_with (at_builtin; refine wpList_append_own_at _ rfl (.tmp 16) (.tmp 20) 116 rfl 0 214 i0 (.agg #[.string ⟨#[]⟩, .int .i64 0]) 2 24 Tryz.und116 hi hz0 hz1 hz2 rfl (by decide) _ _ _ rfl (hown.alloc _) ⟨w1.heap.size, 0, none⟩ 1 1 [encStr x, .int .i64 c] rfl rfl (fun j u hu => news_new _ #[encStr x, .int .i64 c] 214 j u hu) (fun u hu => by simp at hu; rcases hu with rfl | rfl <;> rfl) (by unfold maxLen; omega) (by omega) (by omega) ?_)
      intro v' w2 hown2 hgr2 hnil hat2
      have hlen2 : (gs ++ [(x, leftD D (.string x))]).length = gs.length + 1 := by simp
      have ecell : cellsG gs ++ [encStr x, .int .i64 c] = cellsG (gs ++ [(x, leftD D (.string x))]) := by simp [cellsG, HCV.out]
      rw [ecell] at hown2
      have A2 := hid ((A1.out.alloc (.cells #[encStr x, .int .i64 c] 214)).growG (gs' := gs ++ [(x, leftD D (.string x))]) (by rw [hlen2]; exact hown2) hgr2 (by simpa using hat2))
      obtain ⟨oa', oc', eo⟩ := owns_form hown2
      have M2 := hid (show w2.rangeLeft b r < wr.rangeLeft b r from by
        have h2 : w2.ranges Tryz.prog 9 rE b r n D (fun z => left z && !z.sameKey (.string x)) cnt1 := A2.out.2.2.1.2.1
        have h1 : w1.ranges Tryz.prog 9 rE b r n D (fun z => left z && !z.sameKey (.string x)) cnt1 := A1.out.2.2.1.2.1
        rw [h2.left_eq, ← h1.left_eq]; exact M1.out)
      subst eo
      clear hown2 hgr2 hnil hat2 ecell hlen2 hown A1 M1
      go_wp2
      go_roundw
      case rel => exact ⟨_, _, _, C1, A2⟩
      case measure => exact M2.out
end Go.Proofs.YtafickhhdemjnaaGreatDoor

namespace Go.Proofs.YtafickhhdemjnaaGreatDoor
open Go.RowKit Go.ChangeMaps Go.MapKept Go.WideShapes
open Go.WideElems (Fit rd rg pl rd_key rd_val rg_of other_key)
open Go.Maps (Keyed)
set_option linter.unusedVariables false

section
variable {H : Type} {P : Program} {k : TypeId} {R : Value → Option (DataW H × List MemPlace)} {w : World} {b r n : Nat} {D : DataW H} {left : Lit → Bool} {cnt : Nat}

theorem left_size (es : Array MapEntry) (seen : Array Nat) : (leftOf es seen).size = ((es.toList.map (·.born)).filter fun x => !seen.contains x).length := by
  unfold leftOf
  rw [← Array.length_toList, Array.toList_filter, List.filter_map, List.length_map]
  rfl

/-- 'm[k] = v' in a round of a loop over m, at a key that is there: the loop goes on as it would. -/
theorem ranges_store {t e : TypeId} (h : w.ranges P k R b r n D left cnt) (K : Keyed P k) (ht : P.underlying t = some (.map k e)) (hn : n < maxLen) {key val : Value} {kl : Lit} {d : DataW H} {ps : List MemPlace}
    (hkey : keyOf P k key = some kl) (hv : R val = some (d, ps)) (hhas : Maps.has D kl = true) :
    ∃ w', (Instr.mapUpdate t (.map (some b)) key val).run P w = .ok () w' ∧ w'.ranges P k R b r n (D.put kl d) left cnt ∧ w.grownBy w' (some b) := by
  have hne := h.ne
  obtain ⟨es, clock, since, seen, c0, hb, F, hs, rfl, hr, hold, rfl, hl1, hl2, hsc, hsk⟩ := h
  obtain ⟨es', clock', hrun, F', hput, _, _, hwho⟩ := Maps.fit_store (R' := R) K ht hb F (Nat.lt_of_le_of_lt hs hn) (fun _ _ _ _ hz => hz) hkey hv
  -- the key is there
  obtain ⟨p, hp, hpk⟩ := List.any_eq_true.1 hhas
  obtain ⟨x0, hx0, hx0k⟩ := List.mem_map.1 (mem_sorted.1 hp)
  obtain ⟨y0, hy0⟩ := F.reads x0 hx0
  have hx0key : x0.key = key := by
    have h1 := rd_key hy0
    have h2 : (rg P k R x0).1 = kl := by rw [hx0k]; exact WideAt.sameKey_eq hpk
    rw [rg_of hy0] at h2
    exact K.inj (h2 ▸ h1) hkey
  rcases K.find w hkey es.toList F.keys with ⟨_, h2⟩ | ⟨j, e0, h1, h2, h3⟩
  · exact absurd hx0key (h2 x0 hx0)
  have hj : es[j]? = some e0 := by simpa using h2
  have hrun2 : (Instr.mapUpdate t (.map (some b)) key val).run P w = .ok () (setBlock w b (.map (es.modify j (fun x => { x with key := key, val := val })) clock)) := by
    simp [Instr.mapUpdate, run_underlying ht, MapKept.run_getObj_map hb, K.check w false hkey, h1, hj, h3, K.stays w hkey, MapKept.run_setObj_map _ hb, Result.andThen, setBlock]
  have heq : some (Obj.map es' clock') = some (Obj.map (es.modify j (fun x => { x with key := key, val := val })) clock) := by
    have e1 : setBlock w b (.map es' clock') = setBlock w b (.map (es.modify j (fun x => { x with key := key, val := val })) clock) := by
      have h9 := hrun.symm.trans hrun2
      injection h9
    rw [← heap_setBlock_same hb (.map es' clock'), e1, heap_setBlock_same hb]
  simp only [Option.some.injEq, Obj.map.injEq] at heq
  obtain ⟨hes, hcl⟩ := heq
  subst hcl
  have hborn : es'.toList.map (·.born) = es.toList.map (·.born) := by
    rw [hes, Array.toList_modify]
    apply List.ext_getElem?
    intro i
    simp only [List.getElem?_map, List.getElem?_modify]
    by_cases hij : j = i
    · subst hij
      cases es.toList[j]? <;> simp
    · simp [hij]
  have hkl : (rg P k R e0).1 = kl := by
    obtain ⟨y, hy⟩ := F.reads e0 (List.mem_of_getElem? h2)
    have m1 := rd_key hy
    rw [h3, hkey] at m1
    rw [rg_of hy]
    exact (Option.some.inj m1).symm
  have hmem : ∀ x ∈ es'.toList, ∃ y ∈ es.toList, (rg P k R x).1 = (rg P k R y).1 ∧ x.born = y.born := by
    intro x hx
    rcases hwho x hx with ⟨hx', _⟩ | ⟨hxk, hxv⟩
    · exact ⟨x, hx', rfl, rfl⟩
    · refine ⟨e0, List.mem_of_getElem? h2, ?_, ?_⟩
      · obtain ⟨y, hy⟩ := F'.reads x hx
        have m1 := rd_key hy
        rw [hxk, hkey] at m1
        rw [rg_of hy, hkl]
        exact (Option.some.inj m1).symm
      · -- the one entry at that key
        have hj' : es'.toList[j]? = some { e0 with key := key, val := val } := by
          rw [hes, Array.toList_modify, List.getElem?_modify]
          simp [h2]
        have := entry_eq_of_key ((stamped_iff es' clock').1 F'.stamped).2.2 hx (List.mem_of_getElem? hj') (by rw [hxk])
        rw [this]
  refine ⟨_, hrun, ⟨es', clock', since, seen, c0, heap_setBlock_same hb _, F', ?_, by rw [DataW.put_eq, hput], (heap_setBlock_other hb _ hne).trans hr, ?_, ?_, ?_, ?_, hsc, hsk⟩, ⟨rfl, rfl, rfl, by simp [setBlock], fun i _ hi => heap_setBlock_other hb _ (fun e => hi (by rw [e]))⟩⟩
  · rw [hes]; simpa using hs
  · intro x hx
    obtain ⟨y, hy, _, hyb⟩ := hmem x hx
    rw [hyb]
    exact hold y hy
  · rw [left_size, left_size, hborn]
  · intro x hx
    obtain ⟨y, hy, hyk, hyb⟩ := hmem x hx
    rw [hyk, hyb]
    exact hl1 y hy
  · intro kl' hkl'
    obtain ⟨y, hy, rfl⟩ := hl2 kl' hkl'
    obtain ⟨i, hi⟩ := List.getElem?_of_mem hy
    by_cases hij : j = i
    · subst hij
      rw [h2] at hi
      cases hi
      refine ⟨{ e0 with key := key, val := val }, List.mem_of_getElem? (i := j) (by rw [hes, Array.toList_modify, List.getElem?_modify]; simp [h2]), ?_⟩
      obtain ⟨z, hz⟩ := F'.reads { e0 with key := key, val := val } (List.mem_of_getElem? (i := j) (by rw [hes, Array.toList_modify, List.getElem?_modify]; simp [h2]))
      have m1 := rd_key hz
      simp only at m1
      rw [hkey] at m1
      rw [rg_of hz, hkl]
      exact (Option.some.inj m1).symm
    · refine ⟨y, List.mem_of_getElem? (i := i) (by rw [hes, Array.toList_modify, List.getElem?_modify]; simp [hij, hi]), rfl⟩

theorem wpList_store_ranges (w : World) {ops : Array Oper} {rest : List Oper} {o : Oper} {a : Act} {Q : Exit → Act → World → Prop}
    (hg : o.guard = none) (m x v : Operand) (t : TypeId) (hop : o.op = Op.mapUpdate t m x v)
    (k e : TypeId) (K : Keyed P k) (ht : P.underlying t = some (.map k e)) (R : Value → Option (DataW H × List MemPlace)) (b r n : Nat) (D : DataW H) (left : Lit → Bool) (cnt : Nat)
    (hm : a.eval m = .map (some b)) (h : w.ranges P k R b r n D left cnt) (hn : n < maxLen) (key val : Value) (kl : Lit) (hx : a.eval x = key) (hv : a.eval v = val) (hkey : keyOf P k key = some kl)
    (d : DataW H) (ps : List MemPlace) (hval : R val = some (d, ps)) (hhas : Maps.has D kl = true)
    (hK : ∀ w', w'.ranges P k R b r n (D.put kl d) left cnt → w.grownBy w' (some b) → wpList P ops Q rest (a.put o.dst undef) w') :
    wpList P ops Q (o :: rest) a w := by
  refine wpList_plain hg fun K' hK' => ?_
  obtain ⟨w', hrun, r1, r2⟩ := ranges_store h K ht hn hkey hval hhas
  unfold Oper.wp
  simp [execOp, hop, hm, hx, hv, hrun, Result.andThen]
  exact hK' _ _ (hK w' r1 r2)
end
end Go.Proofs.YtafickhhdemjnaaGreatDoor

/- slices.Delete at this program: which number is which. -/
namespace Go.Proofs
open Go.Shelf
def Tryz.lays24_ren : Go.Shelf.Ren := ⟨fun | 24 => 208 | n => n, fun | 24 => 54 | 9 => 9 | 3 => 3 | 4 => 4 | 0 => 0 | n => n, fun | n => n⟩
theorem Tryz.lays24 : Go.Proofs.Lays2.n24 Tryz.prog Tryz.lays24_ren := {
  mixed := by kernel_rfl
  f24 := Tryz.func208.trans (congrArg some (by kernel_rfl))
  t0 := Tryz.underlying0
  a0 := Tryz.isAgg0
  z0 := Tryz.sizeOf0
  v0 := Tryz.zeroValue0
  t3 := Tryz.underlying3
  a3 := Tryz.isAgg3
  z3 := Tryz.sizeOf3
  v3 := Tryz.zeroValue3
  t4 := Tryz.underlying4
  a4 := Tryz.isAgg4
  z4 := Tryz.sizeOf4
  v4 := Tryz.zeroValue4
  t9 := Tryz.underlying9
  a9 := Tryz.isAgg9
  z9 := Tryz.sizeOf9
  v9 := Tryz.zeroValue9
  t24 := Tryz.underlying54
  a24 := Tryz.isAgg54
  z24 := Tryz.sizeOf54
  v24 := Tryz.zeroValue54
  i9 := by kernel_rfl }
end Go.Proofs

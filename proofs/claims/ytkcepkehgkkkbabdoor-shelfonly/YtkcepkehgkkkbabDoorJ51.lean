import Derived.Test.YtkcepkehgkkkbabDoorJ27
import Derived.Test.YtkcepkehgkkkbabDoorGLay
import Derived.Shelf.SlSortCmp.SmallK
import Derived.Test.YtkcepkehgkkkbabDoorByte
import Derived.Sort.KeysCollected
import Derived.Test.YtkcepkehgkkkbabDoorSame
import Derived.Test.YtkcepkehgkkkbabDoorSta
namespace Go.Proofs.YtkcepkehgkkkbabDoor
open Go.RowKit Go.Sort Go.Lib
set_option linter.unusedVariables false

abbrev Grp := List UInt8 × Int
def cmpL (x y : List UInt8) : Int := if x < y then -1 else if y < x then 1 else 0
def encG (g : Grp) : List Value := [encStr g.1, .int .i64 g.2]

theorem lt_tri {x y : List UInt8} (h1 : ¬ x < y) (h2 : ¬ y < x) : x = y := List.le_antisymm (List.not_lt.1 h2) (List.not_lt.1 h1)
theorem cmpL_lt {x y : List UInt8} (h : x < y) : cmpL x y = -1 := by rw [cmpL, if_pos h]
theorem cmpL_gt {x y : List UInt8} (h : ¬ x < y) (h2 : ¬ x = y) : cmpL x y = 1 := by
  rw [cmpL, if_neg h]
  by_cases h3 : y < x
  · rw [if_pos h3]
  · exact absurd (lt_tri h h3) h2
theorem cmpL_eq {x y : List UInt8} (h : ¬ x < y) (h2 : x = y) : cmpL x y = 0 := by
  subst h2
  rw [cmpL, if_neg h, if_neg h]

theorem gtr_s (t : TypeId) (a b : ByteArray) : binOp .gtr t (.string a) (.string b) = pure (.bool !(Op.bytesLess a.toList b.toList || a.toList == b.toList)) := by simp [binOp, Op.stringOp]

theorem nan_any (x : ByteArray) (W : World) : Calls Tryd.prog 58 #[.string x] W fun e w' => e = .returned (.bool false) ∧ w' = W := by
  go_enter Tryd.func58, Tryd.ntmps58
  go_wp2
  go_ret
  exact ⟨by simp, rfl⟩

theorem cmp_any (x y : ByteArray) (W : World) : Calls Tryd.prog 48 #[.string x, .string y] W fun e w' => e = .returned (.int .i64 (cmpL x.toList y.toList)) ∧ w' = W := by
  have hb1 := bytesLess_eq x.toList y.toList
  have hg := gtr_s 9 x y
  rw [hb1] at hg
  go_enter Tryd.func48, Tryd.ntmps48
  go_wp2_with fail
  refine (nan_any _ _).mono ?_
  rintro e w1 ⟨rfl, rfl⟩
  go_wp2_with fail
  refine (nan_any _ _).mono ?_
  rintro e w1 ⟨rfl, rfl⟩
  go_wp2_with fail
  · go_ret
    rename_i h
    refine ⟨?_, rfl⟩
    rw [cmpL_lt h]
    rfl
  · go_ret
    rename_i h _ _ h2
    refine ⟨?_, rfl⟩
    rw [cmpL_gt h (by simpa using h2)]
    rfl
  · go_ret
    rename_i h h2
    refine ⟨?_, rfl⟩
    rw [cmpL_eq h (by simpa using h2)]
    rfl

theorem strB_toList (x : List UInt8) : (strB x).toList = x := ByteArray.toList_mk x

set_option maxHeartbeats 1000000 in
theorem clo_any (x y : Grp) (W : World) : Calls Tryd.prog 47 #[.agg #[encStr x.1, .int .i64 x.2], .agg #[encStr y.1, .int .i64 y.2]] W fun e w' => e = .returned (.int .i64 (cmpL x.1 y.1)) ∧ ∃ q os', w' = grow (W.drewN q) os' := by
  have hcon := fun W' => cmp_any (strB x.1) (strB y.1) W'
  rw [strB_toList, strB_toList] at hcon
  generalize cmpL x.1 y.1 = r at hcon ⊢
  go_enter Tryd.func47, Tryd.ntmps47
  go_wp2_with (go_at_call 48; refine (hcon _).mono ?_; rintro e w' ⟨rfl, rfl⟩)
  go_ret
  exact ⟨rfl, 0, _, by rw [alloc_eq_grow, alloc_eq_grow, grow_grow]; rfl⟩
theorem cmpLaysG (blk off size : Nat) (w : World) : CmpLays Tryd.prog 47 #[] encG 2 (fun x y => cmpL x.1 y.1) blk off size w :=
  fun _ _ _ _ x y => clo_any x y _

set_option maxRecDepth 1000000 in
theorem lenG (n : Nat) (W : World) (h : n ≤ 12) : Calls Tryd.prog 57 #[.int .u64 n] W fun e w' => (∃ l : Int, e = .returned (.int .i64 l)) ∧ w' = W := by
  have : n = 0 ∨ n = 1 ∨ n = 2 ∨ n = 3 ∨ n = 4 ∨ n = 5 ∨ n = 6 ∨ n = 7 ∨ n = 8 ∨ n = 9 ∨ n = 10 ∨ n = 11 ∨ n = 12 := by omega
  rcases this with rfl | rfl | rfl | rfl | rfl | rfl | rfl | rfl | rfl | rfl | rfl | rfl | rfl <;> (go_enter Tryd.func57, Tryd.ntmps57; go_wp2; go_ret; exact ⟨⟨_, rfl⟩, rfl⟩)

theorem ltG (x y : Grp) : ltOf (fun x y : Grp => cmpL x.1 y.1) x y = decide (x.1 < y.1) := by
  unfold ltOf
  show decide (cmpL x.1 y.1 < 0) = _
  by_cases h1 : x.1 < y.1
  · rw [cmpL_lt h1]; simp [h1]
  · by_cases h2 : x.1 = y.1
    · rw [cmpL_eq h1 h2]; simp [h1]
    · rw [cmpL_gt h1 h2]; simp [h1]
theorem swoG : SWO (ltOf fun x y : Grp => cmpL x.1 y.1) where
  irrefl x := by rw [ltG]; simp
  trans x y z h1 h2 := by
    rw [ltG] at *
    simp only [decide_eq_true_eq] at *
    exact List.lt_trans h1 h2
  ntrans x y z h1 h2 := by
    rw [ltG] at *
    simp only [decide_eq_false_iff_not, List.not_lt] at *
    exact List.le_trans h2 h1

/-- The row's cells, flat. -/
theorem flat_eq (gs : List Grp) : flatK encG 2 gs.toArray = (cellsG gs).toArray := by
  refine ext_get! (by simp [cellsG_len]) fun t ht => ?_
  have ht' : t < gs.length * 2 := by simpa using ht
  rw [get_flatK _ _ _ t (by simpa using ht')]
  have hk : t / 2 < gs.length := by omega
  obtain ⟨h1, h2⟩ := cellsG_at hk
  have hm : t % 2 = 0 ∨ t % 2 = 1 := by omega
  have eg : gs.toArray[t / 2]! = gs[t / 2] := by simp [hk]
  rw [eg]
  rcases hm with hm | hm
  · have e : t / 2 * 2 = t := by omega
    rw [e] at h1
    rw [hm]
    simp [encG, h1, Array.getElem!_eq_getD, Array.getD_eq_getD_getElem?]
  · have e : t / 2 * 2 + 1 = t := by omega
    rw [e] at h2
    rw [hm]
    simp [encG, h2, Array.getElem!_eq_getD, Array.getD_eq_getD_getElem?]
theorem holdsG {w : World} {g : Nat} {cur : Array Value} {gs : List Grp} (hb : w.heap[g]? = some (.cells cur 66 (0, 0))) (ht : cur.toList.take (gs.length * 2) = cellsG gs) : HoldsK encG 2 w g 0 gs.toArray := by
  unfold HoldsK
  rw [flat_eq]
  intro j hj
  have hj' : j < gs.length * 2 := by simpa [cellsG_len] using hj
  refine ⟨?_, by simp [World.frozen?, hb]⟩
  have h1 : (cur.toList.take (gs.length * 2))[j]? = (cellsG gs)[j]? := by rw [ht]
  rw [List.getElem?_take_of_lt hj'] at h1
  simp only [World.cell?, hb, Nat.zero_add]
  simp only [Option.isSome_none, Bool.false_eq_true, if_false]
  rw [← Array.getElem?_toList, h1]
  have : j < (cellsG gs).length := by rw [cellsG_len]; exact hj'
  simp [this]
theorem heapG {w : World} {g n : Nat} {os : Array Obj} {cur : Array Value} {e : TypeId} {fr : Nat × Nat} (d : Array Value) (hb : w.heap[g]? = some (.cells cur e fr)) :
    (grow (putRow id (Sort.ahead w n) g 0 d) os).heap[g]? = some (.cells (putCells id 0 d cur) e fr) := by
  have hg : g < w.heap.size := (Array.getElem?_eq_some_iff.1 hb).1
  rw [heap_grow_old _ _ (by simpa using hg)]
  simp [putRow, mapBlock, Sort.ahead, Array.getElem?_modify, hb, onCells]
theorem grownG {w : World} {g n : Nat} {os : Array Obj} (d : Array Value) : w.grownBy (grow (putRow id (Sort.ahead w n) g 0 d) os) (some g) := by
  refine ⟨rfl, rfl, rfl, by simp, fun k hk hne => ?_⟩
  rw [heap_grow_old _ _ (by simpa using hk)]
  have : g ≠ k := fun e => hne (by rw [e])
  simp [putRow, mapBlock, Sort.ahead, Array.getElem?_modify, this]
theorem takeG (cur : Array Value) (ts : List Value) (h : ts.length ≤ cur.size) : (putCells id 0 ts.toArray cur).toList.take ts.length = ts := by
  apply List.ext_getElem?
  intro j
  by_cases hj : j < ts.length
  · rw [List.getElem?_take_of_lt hj, Array.getElem?_toList]
    simp [putCells, hj, show j < cur.size by omega]
  · rw [List.getElem?_take_eq_none (by omega), List.getElem?_eq_none (by omega)]

set_option maxRecDepth 1000000 in
theorem insG_nil {w : World} (f : Value) : Calls Tryd.prog 61 #[.slice none 0 0, .int .i64 0, .int .i64 0, f] w fun e w' => e = .returned (.tuple #[]) ∧ w' = w := by
  go_enter Tryd.func61, Tryd.ntmps61
  go_wp2
  refine wp_loop_rounds 1 ?_
  rw [rounds_succ]
  go_wp2
  go_end0
  exact ⟨rfl, rfl⟩
set_option maxRecDepth 1000000 in
theorem pdqG_nil {w : World} (lim : Int) (f : Value) : Calls Tryd.prog 56 #[.slice none 0 0, .int .i64 0, .int .i64 0, .int .i64 lim, f] w fun e w' => e = .returned (.tuple #[]) ∧ w' = w := by
  go_enter Tryd.func56, Tryd.ntmps56
  go_wp2_with fail
  refine wp_loop_rounds 1 ?_
  rw [rounds_succ]
  go_wp2_with fail
  refine (insG_nil f).mono ?_
  rintro e w1 ⟨rfl, rfl⟩
  go_wp2
  (try simp only [Exit.inBlock, Exit.then])
  refine bodyPost_ret (results_none rfl _ _ _) rfl ?_
  exact ⟨rfl, rfl⟩
set_option maxRecDepth 1000000 in
theorem sortG_nil {w : World} (f : Value) : Calls Tryd.prog 46 #[.slice none 0 0, f] w fun e w' => e = .returned (.tuple #[]) ∧ w' = w := by
  go_enter Tryd.func46, Tryd.ntmps46
  go_wp2_with fail
  refine (lenG 0 _ (by omega)).mono ?_
  rintro e w1 ⟨⟨n, rfl⟩, rfl⟩
  go_wp2_with fail
  refine (pdqG_nil n f).mono ?_
  rintro e w1 ⟨rfl, rfl⟩
  go_wp2
  go_end0
  exact ⟨rfl, rfl⟩

/-- Groups in the order of their names. -/
def SortedG (gs : List Grp) : Prop := gs.Pairwise fun x y => ¬ y.1 < x.1

/-- A row of groups of one's own, put in order. -/
theorem sortG_own {w : World} {v : Value} {gs : List Grp} {cs : List Comp} (h : All (rowG v gs :: cs) w) (hl : gs.length ≤ 12) : Calls Tryd.prog 46 #[v, .func (.func 47) #[] #[]] w fun e w' => e = .returned (.tuple #[]) ∧ ∃ gs' : List Grp, gs'.Perm gs ∧ SortedG gs' ∧ All (rowG v gs' :: cs) w' := by
  have ho : w.ownsRow 0 66 2 v gs.length (cellsG gs) := h.1.2.1
  rcases ho.2 with ⟨rfl, e⟩ | ⟨g, cap, cur, rfl, hg0, hg, hn, hm, hcs, ht⟩
  · have hnil : gs = [] := List.eq_nil_of_length_eq_zero e
    subst hnil
    refine (sortG_nil _).mono ?_
    rintro e w' ⟨he, rfl⟩
    exact ⟨he, [], .refl _, List.Pairwise.nil, h⟩
  · have hglt := (Array.getElem?_eq_some_iff.1 hg).1
    have eg : ∀ args w, (callFunc 47 args).run Tryd.prog w = .ok (.enter 47 args) w := enters_of Tryd.func47 (by kernel_rfl) rfl
    have hcon := AnyQ.slices_SortFunc_small_sorted Tryd.sortG 2 Tryd.isAgg66 Tryd.sizeOf66 encG (fun _ => rfl) (fun x v hv => by simp [encG] at hv; rcases hv with rfl | rfl <;> rfl) (fun x y => cmpL x.1 y.1) 47 #[] swoG g 0 cap gs.toArray w eg (cmpLaysG g 0 _ w) (holdsG hg ht) hglt (by simpa using hl) lenG
    refine (show Calls Tryd.prog 46 _ w _ from hcon).mono ?_
    rintro e w' ⟨he, d', n, os, hp, hs, rfl⟩
    refine ⟨he, d'.toList, ?_, ?_, ?_⟩
    · have h3 := hp.2.2
      have e1 : (d'.extract 0 gs.toArray.size).toList = d'.toList := by
        have : gs.toArray.size = d'.size := hp.1.symm
        rw [this]; simp
      rw [e1] at h3
      simpa using h3
    · have hsz : d'.size = gs.length := by simpa using hp.1
      rw [SortedG, List.pairwise_iff_getElem]
      intro i j hi hj hij
      have hi' : i < d'.size := by simpa using hi
      have hj' : j < d'.size := by simpa using hj
      have := hs i j (Nat.zero_le _) hij (by simpa [hsz] using hj')
      rw [ltG, getElem!_pos d' i hi', getElem!_pos d' j hj'] at this
      simpa using this
    · have hsz : d'.toList.length = gs.length := by simpa using hp.1
      have hF : flatK encG 2 d' = (cellsG d'.toList).toArray := by
        have := flat_eq d'.toList
        simpa using this
      have hw : sortWorldK encG 2 w g 0 n d' os = grow (putRow id (Sort.ahead w n) g 0 (cellsG d'.toList).toArray) os := by
        unfold sortWorldK putRowK
        rw [hF]
      rw [hw]
      have hcl : (cellsG d'.toList).length = gs.length * 2 := by rw [cellsG_len, hsz]
      refine h.growG (base := 0) (v' := .slice (some ⟨g, 0, none⟩) gs.length cap) ⟨?_, Or.inr ⟨g, cap, _, by rw [hsz], Nat.zero_le _, heapG _ hg, by rw [hsz]; exact hn, hm, by simpa [putCells] using hcs, ?_⟩⟩ (by simpa [Value.ownBlock] using grownG _) (Or.inl rfl)
      · rw [hcl, hsz]
      · rw [hsz, ← hcl]
        exact takeG cur _ (by rw [hcl, hcs]; omega)
end Go.Proofs.YtkcepkehgkkkbabDoor

namespace Go.Proofs.YtkcepkehgkkkbabDoor
open Go.RowKit
open Go.Maps (Keyed)
set_option linter.unusedVariables false

/-- The groups of a map, by their names. -/
def grS (D : DataW Unit) : List Grp := ((strKeys D).mergeSort leB).map fun x => (x, leftD D (.string x))
theorem keys_perm {D : DataW Unit} {w : World} {b n : Nat} (hown : w.ownsMap Tryd.prog 9 rE b n D) {ss : List (List UInt8)} (hnd : ss.Nodup) (hm : ∀ x, x ∈ ss ↔ Maps.has D (.string x) = true) : ss.Perm (strKeys D) := by
  obtain ⟨es, hD, hpw, _⟩ := hown.entries lawS
  obtain ⟨es', hD', hko⟩ := hown.keysOf
  obtain rfl : es = es' := by rw [hD] at hD'; simpa using hD'
  subst hD
  exact perm_strKeys hpw (fun p hp => by obtain ⟨v, hv⟩ := hko p hp; obtain ⟨x, _, hx, _⟩ := Maps.keyOf_str Tryd.underlying9 hv; exact ⟨x, hx⟩) hnd hm
theorem grS_len {D : DataW Unit} {w : World} {b n : Nat} (hown : w.ownsMap Tryd.prog 9 rE b n D) : (grS D).length = Maps.size D := by
  obtain ⟨es, rfl, _⟩ := hown.entries lawS
  simp [grS, strKeys, Maps.size_eq]
theorem Coll.fin {D : DataW Unit} {cnt : Nat} {gs gs' : List Grp} (h : Coll D (fun _ => false) cnt gs) {w : World} {b n : Nat} (hown : w.ownsMap Tryd.prog 9 rE b n D) (hp : gs'.Perm gs) (hs : SortedG gs') : gs' = grS D := by
  have hk : (gs.map Prod.fst).Perm (strKeys D) := keys_perm hown h.nodup fun x => by
    rw [List.mem_map]
    constructor
    · rintro ⟨⟨y, c⟩, hm, rfl⟩
      exact ((h.mem _ _).1 hm).1
    · intro hx
      exact ⟨(x, leftD D (.string x)), (h.mem _ _).2 ⟨hx, rfl, rfl⟩, rfl⟩
  have hval : ∀ g ∈ gs', g = (g.1, leftD D (.string g.1)) := fun g hg => by
    have := ((h.mem g.1 g.2).1 (hp.mem_iff.1 hg)).2.2
    rw [← this]
  have e1 : gs' = (gs'.map Prod.fst).map fun x => (x, leftD D (.string x)) := by
    rw [List.map_map]
    conv => lhs; rw [← List.map_id gs']
    exact List.map_congr_left fun g hg => hval g hg
  have hp2 : (gs'.map Prod.fst).Perm (strKeys D) := (hp.map _).trans hk
  have tr : ∀ a b c : List UInt8, leB a b = true → leB b c = true → leB a c = true := fun a b c h1 h2 => by simp only [leB, decide_eq_true_eq] at *; exact List.le_trans h1 h2
  have tt : ∀ a b : List UInt8, (leB a b || leB b a) = true := fun a b => by simp only [leB, Bool.or_eq_true, decide_eq_true_eq]; exact List.le_total a b
  have e2 : gs'.map Prod.fst = (strKeys D).mergeSort leB := by
    refine List.Perm.eq_of_pairwise (le := fun a b => leB a b = true) (fun a b _ _ h1 h2 => ?_) ?_ (List.pairwise_mergeSort tr tt _) (hp2.trans (List.mergeSort_perm _ leB).symm)
    · simp only [leB, decide_eq_true_eq] at h1 h2
      exact List.le_antisymm h1 h2
    · refine List.pairwise_map.2 (hs.imp fun {x y} hxy => ?_)
      simp only [leB, decide_eq_true_eq]
      exact List.not_lt.1 hxy
  rw [e1, e2]
  rfl

set_option maxHeartbeats 6400000 in
set_option maxRecDepth 1000000 in
theorem byName_any {P i b n : Nat} {qs : List Qv} {q : Qv} {D : DataW Unit} {cs : List Comp} {w : World} (h : All (mapC b n D :: blkC P (flat qs) 56 :: cs) w) (hq : qs[i]? = some q) (hgv : q.gv = .map (some b)) (hs4 : Maps.size D ≤ 12) :
    Calls Tryd.prog 33 #[.pointer (some ⟨P, i * 4, none⟩)] w fun e w' => ∃ v, e = .returned v ∧ All (rowG v (grS D) :: mapC b n D :: blkC P (flat qs) 56 :: cs) w' := by
  obtain ⟨i0, hi, hz0, hz1, hz2⟩ := info_parts Tryd.info66
  have c0 := h.q3 mem2 hq
  rw [hgv] at c0
  have HO : w.ownsMap Tryd.prog 9 rE b n D := h.1.2.1
  have hsz := HO.size_le
  have H := hid h
  have HD := hid hs4
  clear h hq hgv hs4
  go_enter Tryd.func33, Tryd.ntmps33
  go_wp2_with (first | (at_range; refine wpList_range_own _ rfl _ 51 rfl 9 3 lawS Tryd.und51 _ b n D rfl HO ?_; intro w0 hrg0 hg0 hs0) | go_in)
  have A0 := hid ((H.out.it_start hg0 hs0 hrg0).addNilG)
  have T0 := hid (Coll.start D)
  clear H HO hrg0 hg0 hs0 c0
  generalize w.heap.size = r at *
  go_frame
  go_loopw [3] (fun ov wr => ∃ (left : Lit → Bool) (cnt : Nat) (gs : List (List UInt8 × Int)), Hid (Coll D left cnt gs) ∧ Hid (All (rowG ov gs :: itC b r n D left cnt :: blkC P (flat qs) 56 :: cs) wr)) (fun _ wr => wr.rangeLeft b r)
  case atStart => exact ⟨_, _, [], T0, A0⟩
  case round =>
    obtain ⟨left, cnt, gs, TR, AR⟩ := hrel
    clear T0 A0
    have hrg : wr.ranges Tryd.prog 9 rE b r n D left cnt := AR.out.2.2.1.2.1
    have hsl : gs.length ≤ 1048576 := by
      have h1 := TR.out.size
      have h2 := HD.out
      omega
    obtain ⟨oa, oc, hoe⟩ := owns_form (AR.out.1.2.1 : wr.ownsRow 0 66 2 _ gs.length (cellsG gs))
    subst hoe
    have HRG := hid hrg
    go_wp2_with (at_next; refine wpList_next_ranges _ rfl _ rfl 9 lawS rE encStr (Value.int .i64) invK9 invV3 b r n _ _ _ rfl hrg ?_ ?_)
    · intro hc0 hl0
      have hle : left = fun _ => false := funext hl0
      subst hle
      have hl4 : gs.length ≤ 12 := by
        have h1 := TR.out.size
        have h2 := HD.out
        omega
      have T2 := hid TR.out
      have HW := hid (HRG.out.owns)
      clear hc0 hl0 hrg HRG TR hsl
      go_wp2_with fail
      refine (sortG_own AR.out hl4).mono ?_
      rintro e w2 ⟨rfl, gs', hp, hs, A2⟩
      have eg := T2.out.fin HW.out hp hs
      subst eg
      have A2 := hid A2
      clear hp hs AR
      go_wp2
      go_ret
      exact ⟨_, rfl, (A2.out.swap.it_end).swap⟩
    · intro x c kl yd yp w1 cnt1 hkey hlk hv hat hrg1 hlt hg1 hs1 hen
      obtain ⟨x', ex, rfl, hxl⟩ := keyS_inv hkey
      obtain rfl : x = x' := strB_inj (by simpa [encStr] using ex)
      obtain ⟨c', ec, ey, hwc⟩ := plainElem_int_inv Tryd.underlying3 hv
      cases ec
      simp only [Prod.mk.injEq] at ey
      have hkl : WideAt.IsKeyLit (.string x) := lawS.key hkey
      have hcv : c = leftD D (.string x) := by
        unfold leftD
        rw [hat, ey.1]
      have A1 := hid (AR.out.swap.it_turn (Or.inr rfl) hg1 hrg1).swap
      have hown : w1.ownsRow 0 66 2 (.slice oa gs.length oc) gs.length (cellsG gs) := A1.out.1.2.1
      have C1 := hid (TR.out.next hkl hlk hlt)
      have M1 := hid (show w1.rangeLeft b r < wr.rangeLeft b r from by rw [hrg1.left_eq, HRG.out.left_eq]; exact hlt)
      have HCV := hid hcv
      clear ex hs1 hg1 AR hrg hkl hat hv ey hlk hcv hkey hrg1 TR HRG
      go_wp2_with (at_builtin; refine wpList_append_own_at _ rfl (.tmp 16) (.tmp 20) 46 rfl 0 66 i0 (.agg #[.string ⟨#[]⟩, .int .i64 0]) 2 24 Tryd.und46 hi hz0 hz1 hz2 rfl (by decide) _ _ _ rfl (hown.alloc _) ⟨w1.heap.size, 0, none⟩ 1 1 [encStr x, .int .i64 c] rfl rfl (fun j u hu => news_new _ #[encStr x, .int .i64 c] 66 j u hu) (fun u hu => by simp at hu; rcases hu with rfl | rfl <;> rfl) (by unfold maxLen; omega) (by omega) (by omega) ?_)
      intro v' w2 hown2 hgr2 hnil hat2
      have hlen2 : (gs ++ [(x, leftD D (.string x))]).length = gs.length + 1 := by simp
      have ecell : cellsG gs ++ [encStr x, .int .i64 c] = cellsG (gs ++ [(x, leftD D (.string x))]) := by simp [cellsG, HCV.out]
      rw [ecell] at hown2
      have A2 := hid ((A1.out.alloc (.cells #[encStr x, .int .i64 c] 66)).growG (gs' := gs ++ [(x, leftD D (.string x))]) (by rw [hlen2]; exact hown2) hgr2 (by simpa using hat2))
      obtain ⟨oa', oc', eo⟩ := owns_form hown2
      have M2 := hid (show w2.rangeLeft b r < wr.rangeLeft b r from by
        have h2 : w2.ranges Tryd.prog 9 rE b r n D (fun z => left z && !z.sameKey (.string x)) cnt1 := A2.out.2.2.1.2.1
        have h1 : w1.ranges Tryd.prog 9 rE b r n D (fun z => left z && !z.sameKey (.string x)) cnt1 := A1.out.2.2.1.2.1
        rw [h2.left_eq, ← h1.left_eq]; exact M1.out)
      subst eo
      clear hown2 hgr2 hnil hat2 ecell hlen2 hown A1 M1
      go_wp2
      go_roundw
      case rel => exact ⟨_, _, _, C1, A2⟩
      case measure => exact M2.out
end Go.Proofs.YtkcepkehgkkkbabDoor

namespace Go.Proofs.YtkcepkehgkkkbabDoor
open Go.RowKit
set_option linter.unusedVariables false

theorem wrapK (k : Nat) (h : k < 12) : wrap64 ((k : Int) + 1) = ((k + 1 : Nat) : Int) := by unfold wrap64; omega
theorem measK {k m : Nat} (h : k < m) (h2 : k < 12) : m - (intOf (.int .i64 (wrap64 ((k : Int) + 1)))).toNat < m - (intOf (.int .i64 (k : Int))).toNat := by
  rw [wrapK k h2]
  show m - ((k + 1 : Nat) : Int).toNat < m - ((k : Nat) : Int).toNat
  rw [Int.toNat_natCast, Int.toNat_natCast]
  omega

set_option maxHeartbeats 6400000 in
set_option maxRecDepth 1000000 in
theorem bytes_gs {P i b n : Nat} {qs : List Qv} {nm : ByteArray} {first : Nat} {iv : Value} {items : List ByteArray} {D : DataW Unit} {cs : List Comp} {w : World} (h : All (blkC P (flat qs) 56 :: ownC 9 iv (txtV items) :: mapC b n D :: cs) w) (hq : qs[i]? = some ⟨nm, first, iv, .map (some b)⟩)
    (hnm : nm.size ≤ 1048576) (hfs : first < 1152921504606846976) (hit : bulkT items ≤ 1099511627776) (hil : items.length < 1048576) (hs4 : Maps.size D ≤ 12) {gs : List Grp} (hG : grS D = gs) (hgk : ∀ g ∈ gs, g.1.length ≤ 1048576 ∧ ∃ c : Nat, g.2 = (c : Int) ∧ c < 1152921504606846976) :
    Calls Tryd.prog 24 #[.pointer (some ⟨P, i * 4, none⟩)] w fun e w' => ∃ so sn sc, e = .returned (.slice so sn sc) ∧ All (ownC 5 (.slice so sn sc) (cellsB (slotB nm first items gs)) :: blkC P (flat qs) 56 :: ownC 9 iv (txtV items) :: mapC b n D :: cs) w' := by
  obtain ⟨ao, cp, eiv⟩ := owns_form (h.2.2.1.2.1 : w.ownsRow 0 9 1 iv (txtV items).length (txtV items))
  rw [List.length_map] at eiv
  subst eiv
  have HH := hid h
  have HQ := hid hq
  have HD := hid hs4
  have HC := hid hgk
  have HG := hid hG
  have c1 := h.q0 List.mem_cons_self hq
  clear h hq hs4 hgk hG
  go_enter Tryd.func24, Tryd.ntmps24
  go_wp2_with fail
  refine (newW HH.out).mono ?_
  rintro e w1 ⟨B, rfl, A⟩
  have A := hid A
  clear HH c1
  have c1 := A.out.q0 mem2 HQ.out
  go_wp2_with fail
  refine (textW A.out nm (by simp [lenS]; omega)).mono ?_
  rintro e w2 ⟨rfl, v2, A2⟩
  have A := hid A2
  clear A2 c1
  have c1 := A.out.q1 mem2 HQ.out
  have L2 := hid (len2 nm hnm)
  go_wp2_with fail
  refine (natW A.out first (by omega) (by have := L2.out; omega)).mono ?_
  rintro e w3 ⟨rfl, v3, A2⟩
  have A := hid A2
  clear A2 c1
  have c1 := A.out.q2 mem2 HQ.out
  rw [addS_addS] at A
  have L3 := hid (len3 nm first hnm)
  go_wp2_with fail
  refine (putItems_any (l := items) A.out (fun w' hw' => txts_of (e := 9) hw' mem2) (by have := L3.out; omega) (by omega)).mono ?_
  rintro e w4 ⟨rfl, v4, A2⟩
  rw [addS_addS] at A2
  have A := hid A2
  clear A2 c1
  have c1 := A.out.q3 mem2 HQ.out
  have hlm := ((A.out.mem mem4).2.1 : w4.ownsMap Tryd.prog 9 rE b n D).len Tryd.und51
  have hgl := grS_len ((A.out.mem mem4).2.1 : w4.ownsMap Tryd.prog 9 rE b n D)
  rw [HG.out] at hgl
  rw [← hgl] at hlm
  have hg12 : Hid (gs.length ≤ 12) := by
    have := HD.out
    show _ ≤ _
    omega
  clear hgl
  have L4 := hid (len4 nm first items hnm hit)
  go_wp2_with fail
  refine (natW A.out gs.length (by have := hg12.out; omega) (by have := L4.out; omega)).mono ?_
  rintro e w5 ⟨rfl, v5, A2⟩
  rw [addS_addS] at A2
  have A := hid A2
  clear A2 c1 hlm
  go_wp2_with fail
  refine (byName_any (A.out.perm (ds := mapC b n D :: blkC P (flat qs) 56 :: wrC B v5 (addS (some []) (enc 9 nm.size ++ nm.data.toList ++ enc 9 first ++ itemsB items ++ enc 9 gs.length)) :: ownC 9 (.slice ao items.length cp) (txtV items) :: cs) ?_) HQ.out rfl HD.out).mono ?_
  · refine List.Perm.trans (l₂ := mapC b n D :: wrC B v5 (addS (some []) (enc 9 nm.size ++ nm.data.toList ++ enc 9 first ++ itemsB items ++ enc 9 gs.length)) :: blkC P (flat qs) 56 :: ownC 9 (.slice ao items.length cp) (txtV items) :: cs) ?_ (List.Perm.cons _ (List.Perm.swap _ _ _))
    exact List.perm_middle (l₁ := [wrC B v5 (addS (some []) (enc 9 nm.size ++ nm.data.toList ++ enc 9 first ++ itemsB items ++ enc 9 gs.length)), blkC P (flat qs) 56, ownC 9 (.slice ao items.length cp) (txtV items)])
  rintro e w6 ⟨gv, rfl, A2⟩
  rw [HG.out] at A2
  obtain ⟨ga, gc, eg⟩ := owns_form (A2.1.2.1 : w6.ownsRow 0 66 2 gv gs.length (cellsG gs))
  subst eg
  have A := hid (A2.perm (ds := wrC B v5 (addS (some []) (enc 9 nm.size ++ nm.data.toList ++ enc 9 first ++ itemsB items ++ enc 9 gs.length)) :: rowG (.slice ga gs.length gc) gs :: mapC b n D :: blkC P (flat qs) 56 :: ownC 9 (.slice ao items.length cp) (txtV items) :: cs) (List.perm_middle (l₁ := [rowG (.slice ga gs.length gc) gs, mapC b n D, blkC P (flat qs) 56])))
  clear A2
  generalize hST : addS (some []) (enc 9 nm.size ++ nm.data.toList ++ enc 9 first ++ itemsB items ++ enc 9 gs.length) = st at A
  have LS : Hid (lenS st ≤ 1099517000010) := by
    have h1 := L4.out
    have h2 := enc_len 9 gs.length
    rw [lenS0] at h1
    show _ ≤ _
    rw [← hST, lenS0, List.length_append]
    omega
  have HST := hid hST
  clear hST L2 L3 L4
  go_wp2
  go_loopw [37] (fun jv wr => ∃ (k : Nat) (v' : Value), jv = .int .i64 (k : Int) ∧ k ≤ gs.length ∧ Hid (All (wrC B v' (addS st (groupsB (gs.take k))) :: rowG (.slice ga gs.length gc) gs :: mapC b n D :: blkC P (flat qs) 56 :: ownC 9 (.slice ao items.length cp) (txtV items) :: cs) wr)) (fun jv _ => gs.length - (intOf jv).toNat)
  case atStart => exact ⟨0, v5, rfl, by omega, by simpa [groupsB, addS_nil] using A⟩
  case round =>
    obtain ⟨k, v', rfl, hk, AR⟩ := hrel
    clear A
    by_cases hlt : k < gs.length
    · obtain ⟨g, ea, hg, e0, e1⟩ := rowG_at (AR.out.2.2.1.2.1 : wr.ownsRow 0 66 2 (.slice ga gs.length gc) gs.length (cellsG gs)) (k := k) hlt
      subst ea
      obtain ⟨hx, c0, hc0, hcb⟩ := HC.out gs[k] (List.getElem_mem hlt)
      have HT := hid (groupsB_take hlt)
      have LG : Hid ((groupsB (gs.take k)).length ≤ 12583200) := by
        have h1 := groupsB_len (gs := gs.take k) (fun g hg => (HC.out g (List.mem_of_mem_take hg)).1)
        have h2 : (gs.take k).length ≤ 12 := by
          have := hg12.out
          rw [List.length_take]; omega
        show _ ≤ _
        omega
      rw [hc0] at e1
      have hx0 : Hid (gs[k].1 = gs[k].1) := hid rfl
      generalize gs[k].1 = x0 at e0 hx HT
      rw [hc0] at HT
      clear hc0 hx0
      have AN := hid (AR.out.addBlk [encStr x0, .int .i64 (c0 : Int)] 66)
      clear AR
      go_wp2_with fail
      have A1 := hid (AN.out.swap)
      clear AN
      refine (textW A1.out (strB x0) (by
        have h1 := LS.out
        have h2 := LG.out
        have h3 := lenS_addS st (groupsB (gs.take k))
        have h4 : (strB x0).size = x0.length := by simp [strB, ByteArray.size]
        omega)).mono ?_
      rintro e w7 ⟨rfl, v7, A2⟩
      have A2 := hid A2
      clear A1
      have hb : w7.heap[wr.heap.size]? = some (.cells [encStr x0, .int .i64 (c0 : Int)].toArray 66 (0, 0)) := A2.out.blk mem2
      have d1 : w7.cell? ⟨wr.heap.size, 1, none⟩ = some (.int .i64 (c0 : Int)) := by rw [cell_at hb]; rfl
      clear hb
      have L7 : Hid (lenS (addS (addS st (groupsB (gs.take k))) (enc 9 (strB x0).size ++ (strB x0).data.toList)) ≤ 1099540000000) := by
        have h1 := LS.out
        have h2 := enc_len 9 (strB x0).size
        have h3 := lenS_addS (addS st (groupsB (gs.take k))) (enc 9 (strB x0).size ++ (strB x0).data.toList)
        rw [List.length_append, str_len] at h3
        have h4 : (strB x0).size = x0.length := by simp [strB, ByteArray.size]
        have h5 := lenS_addS st (groupsB (gs.take k))
        have h6 := LG.out
        show _ ≤ _
        omega
      go_wp2_with fail
      refine (natW A2.out c0 (by omega) (by have := L7.out; omega)).mono ?_
      rintro e w8 ⟨rfl, v8, A3⟩
      have A4 := hid (A3.swap.tail)
      clear A3 A2 d1 L7 e0 e1
      go_wp2
      go_roundw
      case rel =>
        refine ⟨k + 1, v8, congrArg (Value.int .i64) (wrapK k (by have := hg12.out; omega)), hlt, ?_⟩
        have e : addS (addS (addS st (groupsB (gs.take k))) (enc 9 (strB x0).size ++ (strB x0).data.toList)) (enc 9 c0) = addS st (groupsB (gs.take (k + 1))) := by
          rw [addS_addS, addS_addS]
          congr 1
          rw [HT.out]
          simp [strB, ByteArray.size]
        have h4 := A4.out
        rw [e] at h4
        exact h4
      case measure => exact measK hlt (by have := hg12.out; omega)
    · obtain rfl : k = gs.length := by omega
      have e : addS st (groupsB (gs.take gs.length)) = some (slotB nm first items gs) := by
        rw [← HST.out, addS_addS]
        simp [addS, slotB]
      rw [e] at AR
      have AR := hid AR.out
      have hlen : (slotB nm first items gs).length ≤ 1099530000000 := by
        have h1 := LS.out
        rw [← HST.out, lenS0] at h1
        have h2 := groupsB_len (gs := gs) (fun g hg => (HC.out g hg).1)
        have h3 := hg12.out
        have h4 : (slotB nm first items gs).length = (enc 9 nm.size ++ nm.data.toList ++ enc 9 first ++ itemsB items ++ enc 9 gs.length).length + (groupsB gs).length := by
          simp [slotB]; omega
        omega
      clear e
      go_wp2_with fail
      refine (doneW AR.out (by omega)).mono ?_
      rintro e w7 ⟨so, sc, rfl, A2⟩
      have A2 := hid A2
      clear AR
      go_wp2
      go_ret
      refine ⟨so, _, sc, rfl, ?_⟩
      have h1 := (A2.out.swap.tail).swap.tail
      refine h1.perm (List.Perm.cons _ ?_)
      refine List.Perm.trans (l₂ := blkC P (flat qs) 56 :: mapC b n D :: ownC 9 (.slice ao items.length cp) (txtV items) :: cs) (List.Perm.swap _ _ _) (List.Perm.cons _ (List.Perm.swap _ _ _))
end Go.Proofs.YtkcepkehgkkkbabDoor

namespace Go.Proofs.YtkcepkehgkkkbabDoor
open Go.RowKit
set_option linter.unusedVariables false

set_option maxHeartbeats 1600000 in
set_option maxRecDepth 1000000 in
/-- A slot that holds a queue. -/
theorem slot_gs {P i b n : Nat} {qs : List Qv} {nm : ByteArray} {first : Nat} {iv : Value} {items : List ByteArray} {D : DataW Unit} {cs : List Comp} {w : World} (h : All (blkC P (flat qs) 56 :: ownC 9 iv (txtV items) :: mapC b n D :: cs) w) (h8 : qs.length = 8) (hq : qs[i]? = some ⟨nm, first, iv, .map (some b)⟩)
    (hne : nm.size ≠ 0) (hnm : nm.size ≤ 1048576) (hfs : first < 1152921504606846976) (hit : bulkT items ≤ 1099511627776) (hil : items.length < 1048576) (hs4 : Maps.size D ≤ 12) {gs : List Grp} (hG : grS D = gs) (hgk : ∀ g ∈ gs, g.1.length ≤ 1048576 ∧ ∃ c : Nat, g.2 = (c : Int) ∧ c < 1152921504606846976) :
    Calls Tryd.prog 18 #[.pointer (some ⟨P, 0, none⟩), .int .i64 (i : Int)] w fun e w' => ∃ so sn sc, e = .returned (.slice so sn sc) ∧ All (ownC 5 (.slice so sn sc) (cellsB (slotB nm first items gs)) :: blkC P (flat qs) 56 :: ownC 9 iv (txtV items) :: mapC b n D :: cs) w' := by
  have hi8 : i < 8 := by have := (List.getElem?_eq_some_iff.1 hq).1; omega
  have HF := hid (isFree_any (h.q0 List.mem_cons_self hq))
  rw [nonempty nm hne] at HF
  have HB := hid (bytes_gs h hq hnm hfs hit hil hs4 hG hgk)
  have i1 : decide ((i : Int) < 0) = false := by simp
  have i2 : decide ((8 : Int) ≤ (i : Int)) = false := by simp; omega
  have i3 : (0 : Int) ≤ (i : Int) := by omega
  have i4 : (i : Int) < 8 := by omega
  clear h hq hs4 hG hgk
  go_enter Tryd.func18, Tryd.ntmps18
  go_wp2_with fail
  refine HF.out.mono ?_
  rintro e w1 ⟨rfl, rfl⟩
  go_wp2_with fail
  refine HB.out.mono ?_
  rintro e w2 ⟨so, sn, sc, rfl, A2⟩
  have A2 := hid A2
  clear HB HF
  go_wp2
  go_ret
  exact ⟨so, sn, sc, rfl, A2.out⟩

set_option maxHeartbeats 1600000 in
set_option maxRecDepth 1000000 in
/-- A slot that is free. -/
theorem slot_free {P i : Nat} {qs : List Qv} {q : Qv} {cs : List Comp} {w : World} (h : All (blkC P (flat qs) 56 :: cs) w) (h8 : qs.length = 8) (hq : qs[i]? = some q) (hne : q.nm.toList = []) :
    Calls Tryd.prog 18 #[.pointer (some ⟨P, 0, none⟩), .int .i64 (i : Int)] w fun e w' => e = .returned (.slice none 0 0) ∧ All (blkC P (flat qs) 56 :: cs) w' := by
  have hi8 : i < 8 := by have := (List.getElem?_eq_some_iff.1 hq).1; omega
  have HF := hid (isFree_any (h.q0 List.mem_cons_self hq))
  rw [hne] at HF
  have HA := hid h
  have i1 : decide ((i : Int) < 0) = false := by simp
  have i2 : decide ((8 : Int) ≤ (i : Int)) = false := by simp; omega
  have i3 : (0 : Int) ≤ (i : Int) := by omega
  have i4 : (i : Int) < 8 := by omega
  clear h hq hne
  go_enter Tryd.func18, Tryd.ntmps18
  go_wp2_with fail
  refine HF.out.mono ?_
  rintro e w1 ⟨rfl, rfl⟩
  go_wp2
  go_ret
  exact ⟨rfl, HA.out⟩
end Go.Proofs.YtkcepkehgkkkbabDoor

namespace Go.Proofs.YtkcepkehgkkkbabDoor
open Go.RowKit
set_option linter.unusedVariables false

theorem u8_inj {a b : Nat} (ha : a < 256) (hb : b < 256) (h : UInt8.ofNat a = UInt8.ofNat b) : a = b := by
  have := congrArg UInt8.toNat h
  simp at this
  omega
/-- A number's bytes end where they end. -/
theorem enc_pre (f : Nat) : ∀ {a b : Nat} {r r' : List UInt8}, a < 128 ^ (f + 1) → b < 128 ^ (f + 1) → enc f a ++ r = enc f b ++ r' → a = b ∧ r = r' := by
  induction f with
  | zero =>
    intro a b r r' ha hb h
    simp only [enc, List.cons_append, List.nil_append, List.cons.injEq] at h
    exact ⟨u8_inj (by omega) (by omega) h.1, h.2⟩
  | succ f ih =>
    intro a b r r' ha hb h
    have hp : 128 ^ (f + 1 + 1) = 128 ^ (f + 1) * 128 := by rw [Nat.pow_succ]
    rw [hp] at ha hb
    by_cases h1 : a < 128
    · by_cases h2 : b < 128
      · rw [enc_small _ _ h1, enc_small _ _ h2] at h
        simp only [List.cons_append, List.nil_append, List.cons.injEq] at h
        exact ⟨u8_inj (by omega) (by omega) h.1, h.2⟩
      · rw [enc_small _ _ h1, enc_step _ _ h2] at h
        simp only [List.cons_append, List.nil_append, List.cons.injEq] at h
        have := u8_inj (by omega) (by omega) h.1
        omega
    · by_cases h2 : b < 128
      · rw [enc_small _ _ h2, enc_step _ _ h1] at h
        simp only [List.cons_append, List.nil_append, List.cons.injEq] at h
        have := u8_inj (by omega) (by omega) h.1
        omega
      · rw [enc_step _ _ h1, enc_step _ _ h2] at h
        simp only [List.cons_append, List.cons.injEq] at h
        have e1 := u8_inj (by omega) (by omega) h.1
        obtain ⟨e2, e3⟩ := ih (a := a / 128) (b := b / 128) (by omega) (by omega) h.2
        exact ⟨by omega, e3⟩
theorem enc9 {a b : Nat} {r r' : List UInt8} (ha : a < 1152921504606846976) (hb : b < 1152921504606846976) (h : enc 9 a ++ r = enc 9 b ++ r') : a = b ∧ r = r' :=
  enc_pre 9 (Nat.lt_of_lt_of_le ha (by decide)) (Nat.lt_of_lt_of_le hb (by decide)) h
theorem list_pre {l l' r r' : List UInt8} (ha : l.length < 1152921504606846976) (hb : l'.length < 1152921504606846976) (h : (enc 9 l.length ++ l) ++ r = (enc 9 l'.length ++ l') ++ r') : l = l' ∧ r = r' := by
  rw [List.append_assoc, List.append_assoc] at h
  obtain ⟨e1, e2⟩ := enc9 ha hb h
  exact List.append_inj e2 e1
theorem text_pre {t t' : ByteArray} {r r' : List UInt8} (ha : t.size < 1152921504606846976) (hb : t'.size < 1152921504606846976) (h : (enc 9 t.size ++ t.data.toList) ++ r = (enc 9 t'.size ++ t'.data.toList) ++ r') : t = t' ∧ r = r' := by
  rw [← str_len t, ← str_len t'] at h
  obtain ⟨e1, e2⟩ := list_pre (by rw [str_len]; exact ha) (by rw [str_len]; exact hb) h
  refine ⟨?_, e2⟩
  cases t; cases t'
  simpa using e1
theorem texts_pre : ∀ {l l' : List ByteArray} {r r' : List UInt8}, l.length = l'.length → (∀ t ∈ l, t.size ≤ 64) → (∀ t ∈ l', t.size ≤ 64) → textsB l ++ r = textsB l' ++ r' → l = l' ∧ r = r'
  | [], [], r, r', _, _, _, h => ⟨rfl, by simpa [textsB] using h⟩
  | [], _ :: _, _, _, hl, _, _, _ => by simp at hl
  | _ :: _, [], _, _, hl, _, _, _ => by simp at hl
  | t :: l, t' :: l', r, r', hl, h1, h2, h => by
    have e1 : textsB (t :: l) ++ r = (enc 9 t.size ++ t.data.toList) ++ (textsB l ++ r) := by simp [textsB]
    have e2 : textsB (t' :: l') ++ r' = (enc 9 t'.size ++ t'.data.toList) ++ (textsB l' ++ r') := by simp [textsB]
    rw [e1, e2] at h
    have b1 := h1 t (by simp)
    have b2 := h2 t' (by simp)
    obtain ⟨rfl, h3⟩ := text_pre (by omega) (by omega) h
    obtain ⟨rfl, h4⟩ := texts_pre (by simpa using hl) (fun x hx => h1 x (by simp [hx])) (fun x hx => h2 x (by simp [hx])) h3
    exact ⟨rfl, h4⟩
/-- What holds of groups. -/
def OkG (gs : List Grp) : Prop := ∀ g ∈ gs, 0 < g.1.length ∧ g.1.length ≤ 16 ∧ ∃ c : Nat, g.2 = (c : Int) ∧ c ≤ 1099511627776
theorem groups_pre : ∀ {l l' : List Grp}, l.length = l'.length → OkG l → OkG l' → groupsB l = groupsB l' → l = l'
  | [], [], _, _, _, h => rfl
  | [], _ :: _, hl, _, _, _ => by simp at hl
  | _ :: _, [], hl, _, _, _ => by simp at hl
  | (x, c) :: l, (x', c') :: l', hl, h1, h2, h => by
    have e1 : groupsB ((x, c) :: l) = (enc 9 x.length ++ x) ++ (enc 9 c.toNat ++ groupsB l) := by simp [groupsB]
    have e2 : groupsB ((x', c') :: l') = (enc 9 x'.length ++ x') ++ (enc 9 c'.toNat ++ groupsB l') := by simp [groupsB]
    rw [e1, e2] at h
    obtain ⟨_, a2, n, a3, a4⟩ := h1 (x, c) (by simp)
    obtain ⟨_, b2, n', b3, b4⟩ := h2 (x', c') (by simp)
    simp only at a2 a3 b2 b3
    subst a3 b3
    obtain ⟨rfl, h3⟩ := list_pre (by omega) (by omega) h
    simp only [Int.toNat_natCast] at h3
    obtain ⟨rfl, h4⟩ := enc9 (by omega) (by omega) h3
    obtain rfl := groups_pre (by simpa using hl) (fun g hg => h1 g (by simp [hg])) (fun g hg => h2 g (by simp [hg])) h4
    rfl
/-- A slot's bytes tell the queue. -/
theorem slot_inj {nm nm' : ByteArray} {f f' : Nat} {l l' : List ByteArray} {gs gs' : List Grp} (a1 : nm.size ≤ 16) (a2 : nm'.size ≤ 16) (b1 : f ≤ 1099511627776) (b2 : f' ≤ 1099511627776) (c1 : l.length ≤ 32) (c2 : l'.length ≤ 32) (d1 : ∀ t ∈ l, t.size ≤ 64) (d2 : ∀ t ∈ l', t.size ≤ 64) (e1 : gs.length ≤ 12) (e2 : gs'.length ≤ 12) (g1 : OkG gs) (g2 : OkG gs') (h : slotB nm f l gs = slotB nm' f' l' gs') : nm = nm' ∧ f = f' ∧ l = l' ∧ gs = gs' := by
  unfold slotB at h
  obtain ⟨x1, h2⟩ := text_pre (t := nm) (t' := nm') (by omega) (by omega) h
  obtain ⟨x2, h3⟩ := enc9 (a := f) (b := f') (by omega) (by omega) h2
  unfold itemsB at h3
  rw [List.append_assoc, List.append_assoc] at h3
  obtain ⟨hl, h4⟩ := enc9 (a := l.length) (b := l'.length) (by omega) (by omega) h3
  obtain ⟨x3, h5⟩ := texts_pre hl d1 d2 h4
  obtain ⟨hl2, h6⟩ := enc9 (a := gs.length) (b := gs'.length) (by omega) (by omega) h5
  exact ⟨x1, x2, x3, groups_pre hl2 g1 g2 h6⟩

theorem enc1 {n : Nat} (h : n < 128) : (enc 9 n).length = 1 := by rw [enc_small _ _ h]; rfl
theorem enc_bits (f : Nat) : ∀ (j n : Nat), n < 128 ^ (j + 1) → (enc f n).length ≤ j + 1 := by
  induction f with
  | zero => intro j n _; simp [enc]
  | succ f ih =>
    intro j n hn
    by_cases h : n < 128
    · rw [enc_small _ _ h]; simp
    · rw [enc_step _ _ h]
      cases j with
      | zero => simp at hn; omega
      | succ j =>
        have hp : 128 ^ (j + 1 + 1) = 128 ^ (j + 1) * 128 := by rw [Nat.pow_succ]
        have := ih j (n / 128) (by rw [hp] at hn; omega)
        simp only [List.length_cons]
        omega
theorem enc6 {n : Nat} (h : n ≤ 1099511627776) : (enc 9 n).length ≤ 6 := enc_bits 9 5 n (Nat.lt_of_le_of_lt h (by decide))
theorem texts_len {l : List ByteArray} (d : ∀ t ∈ l, t.size ≤ 64) : (textsB l).length ≤ l.length * 65 := by
  induction l with
  | nil => simp [textsB]
  | cons t l ih =>
    have h1 := ih (fun x hx => d x (by simp [hx]))
    have h2 := d t (by simp)
    have h3 := enc1 (n := t.size) (by omega)
    have e : textsB (t :: l) = (enc 9 t.size ++ t.data.toList) ++ textsB l := by simp [textsB]
    rw [e, List.length_append, List.length_append, h3, str_len, List.length_cons]
    omega
theorem groups_len {gs : List Grp} (g : OkG gs) : (groupsB gs).length ≤ gs.length * 23 := by
  induction gs with
  | nil => simp [groupsB]
  | cons x gs ih =>
    have h1 := ih (fun y hy => g y (by simp [hy]))
    obtain ⟨_, h2, c, hc, h4⟩ := g x (by simp)
    have h3 := enc1 (n := x.1.length) (by omega)
    have h5 := enc6 h4
    have e : groupsB (x :: gs) = ((enc 9 x.1.length ++ x.1) ++ enc 9 x.2.toNat) ++ groupsB gs := by simp [groupsB]
    have hn : x.2.toNat = c := by rw [hc]; simp
    rw [e, hn, List.length_append, List.length_append, List.length_append, h3, List.length_cons]
    omega
theorem slot_len {nm : ByteArray} {f : Nat} {l : List ByteArray} {gs : List Grp} (a : nm.size ≤ 16) (b : f ≤ 1099511627776) (c : l.length ≤ 32) (d : ∀ t ∈ l, t.size ≤ 64) (e : gs.length ≤ 4) (g : OkG gs) : (slotB nm f l gs).length ≤ 2197 := by
  have h1 := enc1 (n := nm.size) (by omega)
  have h2 := enc6 b
  have h3 := enc1 (n := l.length) (by omega)
  have h4 := texts_len d
  have h5 := enc1 (n := gs.length) (by omega)
  have h6 := groups_len g
  simp only [slotB, itemsB, List.length_append, h1, h3, h5, str_len]
  omega
theorem slot_pos {nm : ByteArray} {f : Nat} {l : List ByteArray} {gs : List Grp} (a : nm.size ≤ 16) : slotB nm f l gs ≠ [] := by
  intro h
  have h1 := enc1 (n := nm.size) (by omega)
  have := congrArg List.length h
  simp only [slotB, List.length_append, h1, List.length_nil] at this
  omega
end Go.Proofs.YtkcepkehgkkkbabDoor

namespace Go.Proofs.YtkcepkehgkkkbabDoor
open Go.RowKit
set_option linter.unusedVariables false

theorem mem_keys {D : DataW Unit} {w : World} {b n : Nat} (hown : w.ownsMap Tryd.prog 9 rE b n D) {x : List UInt8} : x ∈ strKeys D ↔ Maps.has D (.string x) = true := by
  obtain ⟨es, rfl, hko⟩ := hown.keysOf
  have hk : ∀ p ∈ es, ∃ x, p.1 = .string x := fun p hp => by obtain ⟨v, hv⟩ := hko p hp; obtain ⟨x, _, hx, _⟩ := Maps.keyOf_str Tryd.underlying9 hv; exact ⟨x, hx⟩
  rw [Maps.has_eq, List.any_eq_true]
  show x ∈ es.map (fun p => strOf p.1) ↔ _
  rw [List.mem_map]
  constructor
  · rintro ⟨p, hp, rfl⟩
    obtain ⟨a, ha⟩ := hk p hp
    exact ⟨p, hp, by rw [ha]; simp [Lit.sameKey, strOf]⟩
  · rintro ⟨p, hp, hs⟩
    obtain ⟨a, ha⟩ := hk p hp
    rw [ha] at hs
    exact ⟨p, hp, by rw [ha]; simpa [Lit.sameKey, strOf] using hs⟩
theorem mem_grS {D : DataW Unit} {w : World} {b n : Nat} (hown : w.ownsMap Tryd.prog 9 rE b n D) {g : Grp} : g ∈ grS D ↔ Maps.has D (.string g.1) = true ∧ g.2 = leftD D (.string g.1) := by
  rw [grS, List.mem_map, ← mem_keys hown]
  constructor
  · rintro ⟨x, hx, rfl⟩
    exact ⟨by simpa using hx, rfl⟩
  · rintro ⟨h1, h2⟩
    exact ⟨g.1, by simpa using h1, by rw [← h2]⟩
theorem OkQ.okG {N : Nat} {q : Qs} (h : OkQ N q) {w : World} {b n : Nat} (hown : w.ownsMap Tryd.prog 9 rE b n q.D) : OkG (grS q.D) := by
  intro g hg
  obtain ⟨h1, h2⟩ := (mem_grS hown).1 hg
  obtain ⟨a, b, c, hc, d, e⟩ := h.gk _ h1
  exact ⟨a, b, c, by rw [h2, hc], by have := h.fin; omega⟩
theorem bulk_small {l : List ByteArray} (d : ∀ t ∈ l, t.size ≤ 64) : bulkT l ≤ l.length * 74 := by
  induction l with
  | nil => simp [bulkT]
  | cons t l ih =>
    have h1 := ih (fun x hx => d x (by simp [hx]))
    have h2 := d t (by simp)
    have e : bulkT (t :: l) = t.size + 10 + bulkT l := by simp [bulkT]
    rw [e, List.length_cons]
    omega
/-- A slot's bytes. -/
def slB : Option Qs → List UInt8
  | none => []
  | some q => slotB q.nm q.first q.items (grS q.D)

/-- Slot, at any state. -/
theorem Slot_st {N P i : Nat} {S : St} (hS : OkS N S) {s : Option Qs} (hs : S[i]? = some s) {cs : List Comp} {w : World} (h : All (shL P S ++ cs) w) :
    Calls Tryd.prog 18 #[.pointer (some ⟨P, 0, none⟩), .int .i64 (i : Int)] w fun e w' => ∃ so sc, e = .returned (.slice so (slB s).length sc) ∧ All (ownC 5 (.slice so (slB s).length sc) (cellsB (slB s)) :: (shL P S ++ cs)) w' := by
  have h8 : (stV S).length = 8 := by rw [stV_len]; exact hS.len
  cases s with
  | none =>
    refine (slot_free (cs := S.flatMap slC ++ cs) (by simpa [shL] using h) h8 (stV_at hs) (by rw [empty_iff]; rfl)).mono ?_
    rintro e w' ⟨rfl, A⟩
    refine ⟨none, 0, rfl, ?_⟩
    have A2 : All (shL P S ++ cs) w' := by simpa [shL] using A
    exact A2.addNil (e := 5)
  | some q =>
    have ho := hS.each i q hs
    have A := h.shOut hs
    have hm : w.ownsMap Tryd.prog 9 rE q.b q.n q.D := A.2.2.2.2.1.2.1
    have hg := ho.okG hm
    have hb := bulk_small ho.small
    have h1 := ho.len
    have h2 := ho.fin
    have h3 := ho.nm0
    have h4 := ho.nm16
    have h5 := ho.gs
    refine (slot_gs A h8 (stV_at hs) (by omega) (by omega) (by omega) (by omega) (by omega) (by omega) rfl (fun g hgm => ?_)).mono ?_
    · obtain ⟨_, a, c, hc, d⟩ := hg g hgm
      exact ⟨by omega, c, hc, by omega⟩
    · rintro e w' ⟨so, sn, sc, rfl, A2⟩
      have hlen : sn = (slB (some q)).length := by
        have := (owns_len (A2.1.2.1 : w'.ownsRow 0 5 1 (.slice so sn sc) (cellsB (slotB q.nm q.first q.items (grS q.D))).length (cellsB (slotB q.nm q.first q.items (grS q.D))))).1
        rw [this]; simp [cellsB, slB]
      subst hlen
      refine ⟨so, sc, rfl, ?_⟩
      have A3 : All (blkC P (flat (stV S)) 56 :: ownC 9 q.iv (txtV q.items) :: mapC q.b q.n q.D :: (restC S i ++ (ownC 5 (.slice so (slB (some q)).length sc) (cellsB (slB (some q))) :: cs))) w' := by
        refine A2.perm ?_
        have := List.perm_middle (a := ownC 5 (.slice so (slB (some q)).length sc) (cellsB (slB (some q)))) (l₁ := blkC P (flat (stV S)) 56 :: ownC 9 q.iv (txtV q.items) :: mapC q.b q.n q.D :: restC S i) (l₂ := cs)
        simpa [slB] using this.symm
      refine (A3.shSame hs).perm ?_
      exact List.perm_middle
end Go.Proofs.YtkcepkehgkkkbabDoor

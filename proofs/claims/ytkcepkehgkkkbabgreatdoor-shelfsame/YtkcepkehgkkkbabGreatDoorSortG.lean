import Derived.Test.YtkcepkehgkkkbabGreatDoorJ16
import Derived.Test.YtkcepkehgkkkbabGreatDoorGLay
import Derived.Shelf.SlSortCmp.SmallK
namespace Go.Proofs.YtkcepkehgkkkbabGreatDoor
open Go.RowKit Go.Sort Go.Lib
set_option linter.unusedVariables false

abbrev Grp := List UInt8 × Int
def cmpL (x y : List UInt8) : Int := if x < y then -1 else if y < x then 1 else 0
def encG (g : Grp) : List Value := [encStr g.1, .int .i64 g.2]

theorem lt_tri {x y : List UInt8} (h1 : ¬ x < y) (h2 : ¬ y < x) : x = y := List.le_antisymm (List.not_lt.1 h2) (List.not_lt.1 h1)
theorem cmpL_lt {x y : List UInt8} (h : x < y) : cmpL x y = -1 := by rw [cmpL, if_pos h]
theorem cmpL_gt {x y : List UInt8} (h : ¬ x < y) (h2 : ¬ x = y) : cmpL x y = 1 := by
  rw [cmpL, if_neg h]
  by_cases h3 : y < x
  · rw [if_pos h3]
  · exact absurd (lt_tri h h3) h2
theorem cmpL_eq {x y : List UInt8} (h : ¬ x < y) (h2 : x = y) : cmpL x y = 0 := by
  subst h2
  rw [cmpL, if_neg h, if_neg h]

theorem gtr_s (t : TypeId) (a b : ByteArray) : binOp .gtr t (.string a) (.string b) = pure (.bool !(Op.bytesLess a.toList b.toList || a.toList == b.toList)) := by simp [binOp, Op.stringOp]

theorem nan_any (x : ByteArray) (W : World) : Calls Tryz.prog 132 #[.string x] W fun e w' => e = .returned (.bool false) ∧ w' = W := by
  go_enter Tryz.func132, Tryz.ntmps132
  go_wp2
  go_ret
  exact ⟨by simp, rfl⟩

theorem cmp_any (x y : ByteArray) (W : World) : Calls Tryz.prog 105 #[.string x, .string y] W fun e w' => e = .returned (.int .i64 (cmpL x.toList y.toList)) ∧ w' = W := by
  have hb1 := bytesLess_eq x.toList y.toList
  have hg := gtr_s 9 x y
  rw [hb1] at hg
  go_enter Tryz.func105, Tryz.ntmps105
  go_wp2_with fail
  refine (nan_any _ _).mono ?_
  rintro e w1 ⟨rfl, rfl⟩
  go_wp2_with fail
  refine (nan_any _ _).mono ?_
  rintro e w1 ⟨rfl, rfl⟩
  go_wp2_with fail
  · go_ret
    rename_i h
    refine ⟨?_, rfl⟩
    rw [cmpL_lt h]
    rfl
  · go_ret
    rename_i h _ _ h2
    refine ⟨?_, rfl⟩
    rw [cmpL_gt h (by simpa using h2)]
    rfl
  · go_ret
    rename_i h h2
    refine ⟨?_, rfl⟩
    rw [cmpL_eq h (by simpa using h2)]
    rfl

theorem strB_toList (x : List UInt8) : (strB x).toList = x := ByteArray.toList_mk x

set_option maxHeartbeats 1000000 in
theorem clo_any (x y : Grp) (W : World) : Calls Tryz.prog 104 #[.agg #[encStr x.1, .int .i64 x.2], .agg #[encStr y.1, .int .i64 y.2]] W fun e w' => e = .returned (.int .i64 (cmpL x.1 y.1)) ∧ ∃ q os', w' = grow (W.drewN q) os' := by
  have hcon := fun W' => cmp_any (strB x.1) (strB y.1) W'
  rw [strB_toList, strB_toList] at hcon
  generalize cmpL x.1 y.1 = r at hcon ⊢
  go_enter Tryz.func104, Tryz.ntmps104
  go_wp2_with (go_at_call 105; refine (hcon _).mono ?_; rintro e w' ⟨rfl, rfl⟩)
  go_ret
  exact ⟨rfl, 0, _, by rw [alloc_eq_grow, alloc_eq_grow, grow_grow]; rfl⟩
theorem cmpLaysG (blk off size : Nat) (w : World) : CmpLays Tryz.prog 104 #[] encG 2 (fun x y => cmpL x.1 y.1) blk off size w :=
  fun _ _ _ _ x y => clo_any x y _

set_option maxRecDepth 1000000 in
theorem lenG (n : Nat) (W : World) (h : n ≤ 12) : Calls Tryz.prog 102 #[.int .u64 n] W fun e w' => (∃ l : Int, e = .returned (.int .i64 l)) ∧ w' = W := by
  have : n = 0 ∨ n = 1 ∨ n = 2 ∨ n = 3 ∨ n = 4 ∨ n = 5 ∨ n = 6 ∨ n = 7 ∨ n = 8 ∨ n = 9 ∨ n = 10 ∨ n = 11 ∨ n = 12 := by omega
  rcases this with rfl | rfl | rfl | rfl | rfl | rfl | rfl | rfl | rfl | rfl | rfl | rfl | rfl <;> (go_enter Tryz.func102, Tryz.ntmps102; go_wp2; go_ret; exact ⟨⟨_, rfl⟩, rfl⟩)

theorem ltG (x y : Grp) : ltOf (fun x y : Grp => cmpL x.1 y.1) x y = decide (x.1 < y.1) := by
  unfold ltOf
  show decide (cmpL x.1 y.1 < 0) = _
  by_cases h1 : x.1 < y.1
  · rw [cmpL_lt h1]; simp [h1]
  · by_cases h2 : x.1 = y.1
    · rw [cmpL_eq h1 h2]; simp [h1]
    · rw [cmpL_gt h1 h2]; simp [h1]
theorem swoG : SWO (ltOf fun x y : Grp => cmpL x.1 y.1) where
  irrefl x := by rw [ltG]; simp
  trans x y z h1 h2 := by
    rw [ltG] at *
    simp only [decide_eq_true_eq] at *
    exact List.lt_trans h1 h2
  ntrans x y z h1 h2 := by
    rw [ltG] at *
    simp only [decide_eq_false_iff_not, List.not_lt] at *
    exact List.le_trans h2 h1

/-- The row's cells, flat. -/
theorem flat_eq (gs : List Grp) : flatK encG 2 gs.toArray = (cellsG gs).toArray := by
  refine ext_get! (by simp [cellsG_len]) fun t ht => ?_
  have ht' : t < gs.length * 2 := by simpa using ht
  rw [get_flatK _ _ _ t (by simpa using ht')]
  have hk : t / 2 < gs.length := by omega
  obtain ⟨h1, h2⟩ := cellsG_at hk
  have hm : t % 2 = 0 ∨ t % 2 = 1 := by omega
  have eg : gs.toArray[t / 2]! = gs[t / 2] := by simp [hk]
  rw [eg]
  rcases hm with hm | hm
  · have e : t / 2 * 2 = t := by omega
    rw [e] at h1
    rw [hm]
    simp [encG, h1, Array.getElem!_eq_getD, Array.getD_eq_getD_getElem?]
  · have e : t / 2 * 2 + 1 = t := by omega
    rw [e] at h2
    rw [hm]
    simp [encG, h2, Array.getElem!_eq_getD, Array.getD_eq_getD_getElem?]
theorem holdsG {w : World} {g : Nat} {cur : Array Value} {gs : List Grp} (hb : w.heap[g]? = some (.cells cur 111 (0, 0))) (ht : cur.toList.take (gs.length * 2) = cellsG gs) : HoldsK encG 2 w g 0 gs.toArray := by
  unfold HoldsK
  rw [flat_eq]
  intro j hj
  have hj' : j < gs.length * 2 := by simpa [cellsG_len] using hj
  refine ⟨?_, by simp [World.frozen?, hb]⟩
  have h1 : (cur.toList.take (gs.length * 2))[j]? = (cellsG gs)[j]? := by rw [ht]
  rw [List.getElem?_take_of_lt hj'] at h1
  simp only [World.cell?, hb, Nat.zero_add]
  simp only [Option.isSome_none, Bool.false_eq_true, if_false]
  rw [← Array.getElem?_toList, h1]
  have : j < (cellsG gs).length := by rw [cellsG_len]; exact hj'
  simp [this]
theorem heapG {w : World} {g n : Nat} {os : Array Obj} {cur : Array Value} {e : TypeId} {fr : Nat × Nat} (d : Array Value) (hb : w.heap[g]? = some (.cells cur e fr)) :
    (grow (putRow id (Sort.ahead w n) g 0 d) os).heap[g]? = some (.cells (putCells id 0 d cur) e fr) := by
  have hg : g < w.heap.size := (Array.getElem?_eq_some_iff.1 hb).1
  rw [heap_grow_old _ _ (by simpa using hg)]
  simp [putRow, mapBlock, Sort.ahead, Array.getElem?_modify, hb, onCells]
theorem grownG {w : World} {g n : Nat} {os : Array Obj} (d : Array Value) : w.grownBy (grow (putRow id (Sort.ahead w n) g 0 d) os) (some g) := by
  refine ⟨rfl, rfl, rfl, by simp, fun k hk hne => ?_⟩
  rw [heap_grow_old _ _ (by simpa using hk)]
  have : g ≠ k := fun e => hne (by rw [e])
  simp [putRow, mapBlock, Sort.ahead, Array.getElem?_modify, this]
theorem takeG (cur : Array Value) (ts : List Value) (h : ts.length ≤ cur.size) : (putCells id 0 ts.toArray cur).toList.take ts.length = ts := by
  apply List.ext_getElem?
  intro j
  by_cases hj : j < ts.length
  · rw [List.getElem?_take_of_lt hj, Array.getElem?_toList]
    simp [putCells, hj, show j < cur.size by omega]
  · rw [List.getElem?_take_eq_none (by omega), List.getElem?_eq_none (by omega)]

set_option maxRecDepth 1000000 in
theorem insG_nil {w : World} (f : Value) : Calls Tryz.prog 140 #[.slice none 0 0, .int .i64 0, .int .i64 0, f] w fun e w' => e = .returned (.tuple #[]) ∧ w' = w := by
  go_enter Tryz.func140, Tryz.ntmps140
  go_wp2
  refine wp_loop_rounds 1 ?_
  rw [rounds_succ]
  go_wp2
  go_end0
  exact ⟨rfl, rfl⟩
set_option maxRecDepth 1000000 in
theorem pdqG_nil {w : World} (lim : Int) (f : Value) : Calls Tryz.prog 131 #[.slice none 0 0, .int .i64 0, .int .i64 0, .int .i64 lim, f] w fun e w' => e = .returned (.tuple #[]) ∧ w' = w := by
  go_enter Tryz.func131, Tryz.ntmps131
  go_wp2_with fail
  refine wp_loop_rounds 1 ?_
  rw [rounds_succ]
  go_wp2_with fail
  refine (insG_nil f).mono ?_
  rintro e w1 ⟨rfl, rfl⟩
  go_wp2
  (try simp only [Exit.inBlock, Exit.then])
  refine bodyPost_ret (results_none rfl _ _ _) rfl ?_
  exact ⟨rfl, rfl⟩
set_option maxRecDepth 1000000 in
theorem sortG_nil {w : World} (f : Value) : Calls Tryz.prog 103 #[.slice none 0 0, f] w fun e w' => e = .returned (.tuple #[]) ∧ w' = w := by
  go_enter Tryz.func103, Tryz.ntmps103
  go_wp2_with fail
  refine (lenG 0 _ (by omega)).mono ?_
  rintro e w1 ⟨⟨n, rfl⟩, rfl⟩
  go_wp2_with fail
  refine (pdqG_nil n f).mono ?_
  rintro e w1 ⟨rfl, rfl⟩
  go_wp2
  go_end0
  exact ⟨rfl, rfl⟩

/-- Groups in the order of their names. -/
def SortedG (gs : List Grp) : Prop := gs.Pairwise fun x y => ¬ y.1 < x.1

/-- A row of groups of one's own, put in order. -/
theorem sortG_own {w : World} {v : Value} {gs : List Grp} {cs : List Comp} (h : All (rowG v gs :: cs) w) (hl : gs.length ≤ 12) : Calls Tryz.prog 103 #[v, .func (.func 104) #[] #[]] w fun e w' => e = .returned (.tuple #[]) ∧ ∃ gs' : List Grp, gs'.Perm gs ∧ SortedG gs' ∧ All (rowG v gs' :: cs) w' := by
  have ho : w.ownsRow 0 111 2 v gs.length (cellsG gs) := h.1.2.1
  rcases ho.2 with ⟨rfl, e⟩ | ⟨g, cap, cur, rfl, hg0, hg, hn, hm, hcs, ht⟩
  · have hnil : gs = [] := List.eq_nil_of_length_eq_zero e
    subst hnil
    refine (sortG_nil _).mono ?_
    rintro e w' ⟨he, rfl⟩
    exact ⟨he, [], .refl _, List.Pairwise.nil, h⟩
  · have hglt := (Array.getElem?_eq_some_iff.1 hg).1
    have eg : ∀ args w, (callFunc 104 args).run Tryz.prog w = .ok (.enter 104 args) w := enters_of Tryz.func104 (by kernel_rfl) rfl
    have hcon := AnyQ.slices_SortFunc_small_sorted Tryz.sortG 2 Tryz.isAgg111 Tryz.sizeOf111 encG (fun _ => rfl) (fun x v hv => by simp [encG] at hv; rcases hv with rfl | rfl <;> rfl) (fun x y => cmpL x.1 y.1) 104 #[] swoG g 0 cap gs.toArray w eg (cmpLaysG g 0 _ w) (holdsG hg ht) hglt (by simpa using hl) lenG
    refine (show Calls Tryz.prog 103 _ w _ from hcon).mono ?_
    rintro e w' ⟨he, d', n, os, hp, hs, rfl⟩
    refine ⟨he, d'.toList, ?_, ?_, ?_⟩
    · have h3 := hp.2.2
      have e1 : (d'.extract 0 gs.toArray.size).toList = d'.toList := by
        have : gs.toArray.size = d'.size := hp.1.symm
        rw [this]; simp
      rw [e1] at h3
      simpa using h3
    · have hsz : d'.size = gs.length := by simpa using hp.1
      rw [SortedG, List.pairwise_iff_getElem]
      intro i j hi hj hij
      have hi' : i < d'.size := by simpa using hi
      have hj' : j < d'.size := by simpa using hj
      have := hs i j (Nat.zero_le _) hij (by simpa [hsz] using hj')
      rw [ltG, getElem!_pos d' i hi', getElem!_pos d' j hj'] at this
      simpa using this
    · have hsz : d'.toList.length = gs.length := by simpa using hp.1
      have hF : flatK encG 2 d' = (cellsG d'.toList).toArray := by
        have := flat_eq d'.toList
        simpa using this
      have hw : sortWorldK encG 2 w g 0 n d' os = grow (putRow id (Sort.ahead w n) g 0 (cellsG d'.toList).toArray) os := by
        unfold sortWorldK putRowK
        rw [hF]
      rw [hw]
      have hcl : (cellsG d'.toList).length = gs.length * 2 := by rw [cellsG_len, hsz]
      refine h.growG (base := 0) (v' := .slice (some ⟨g, 0, none⟩) gs.length cap) ⟨?_, Or.inr ⟨g, cap, _, by rw [hsz], Nat.zero_le _, heapG _ hg, by rw [hsz]; exact hn, hm, by simpa [putCells] using hcs, ?_⟩⟩ (by simpa [Value.ownBlock] using grownG _) (Or.inl rfl)
      · rw [hcl, hsz]
      · rw [hsz, ← hcl]
        exact takeG cur _ (by rw [hcl, hcs]; omega)
end Go.Proofs.YtkcepkehgkkkbabGreatDoor

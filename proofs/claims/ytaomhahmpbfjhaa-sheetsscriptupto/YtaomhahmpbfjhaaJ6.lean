import Derived.Test.YtaomhahmpbfjhaaJ5
namespace Go.Proofs.Ytaomhahmpbfjhaa
open Go.RowKit Go.Sort
set_option linter.unusedVariables false

/-- A tree under way: so many of its pieces are there. -/
def midL (lv q i : Nat) : List Value := .int .i64 (lv : Int) :: (List.replicate i (ptr q) ++ List.replicate (16 - i) (.pointer none))
def blankL : List Value := [.int .i64 0, .slice none 0 0, .int .i64 0, .slice none 0 0, .int .i64 0, .slice none 0 0, .int .i64 0, .slice none 0 0, .int .i64 0, .slice none 0 0, .int .i64 0, .slice none 0 0, .int .i64 0, .slice none 0 0, .int .i64 0, .slice none 0 0]

theorem midL_at {lv q i : Nat} (h : i < 16) : (midL lv q i)[1 + i]? = some (.pointer none) := by
  unfold midL
  rw [Nat.add_comm 1 i, List.getElem?_cons_succ, List.getElem?_append_right (by simp)]
  rw [List.length_replicate, Nat.sub_self, List.getElem?_replicate, if_pos (by omega)]
theorem midL_set {lv q i : Nat} (h : i < 16) : (midL lv q i).set (1 + i) (.pointer (some ⟨q, 0, none⟩)) = midL lv q (i + 1) := by
  unfold midL
  rw [Nat.add_comm 1 i, List.set_cons_succ, List.set_append_right _ _ (by simp)]
  congr 1
  rw [List.length_replicate, Nat.sub_self, show 16 - i = (16 - (i + 1)) + 1 by omega, List.replicate_succ, List.set_cons_zero, List.replicate_succ' (n := i)]
  simp [ptr]

/-- While a tree is made: how many leaves it has so far. -/
def Half (w : World) (cs : List Comp) (n : Nat) (i : Nat) (lv : Nat) (wr : World) : Prop :=
  (∃ h, h ≤ 6 ∧ lv = 2 ^ h) ∧ lv < 2 * n ∧ All (blkC (w.heap.size + 1) (midL lv 0 0) 67 :: blkC w.heap.size (midL 0 0 0) 67 :: cs) wr

def Later2 (w : World) (cs : List Comp) (n lv q : Nat) (i : Nat) (wr : World) : Prop :=
  n ≤ lv ∧ All (blkC (w.heap.size + 1) (midL lv q i) 67 :: blkC q blankL 90 :: blkC w.heap.size (midL 0 0 0) 67 :: cs) wr

theorem pow_lt7 {h : Nat} (h1 : 2 ^ h < 64) : h < 6 := by
  rcases Nat.lt_or_ge h 6 with e | e
  · exact e
  · have : 2 ^ 6 ≤ 2 ^ h := Nat.pow_le_pow_right (by omega) e
    omega

set_option maxRecDepth 100000 in
set_option maxHeartbeats 4000000 in
theorem newTree_all {w : World} {cs : List Comp} {n : Nat} (hA : All cs w) (h1 : 1 ≤ n) (h2 : n ≤ 64) :
    Calls Try.prog 24 #[.int .i64 (n : Int)] w fun e w' => ∃ lv q, e = .returned (.agg ((treeL [] lv (List.replicate 16 q)).toArray)) ∧ (∃ h, h ≤ 6 ∧ lv = 2 ^ h) ∧ n ≤ lv ∧ lv < 2 * n ∧ All (blkC q blankL 90 :: cs) w' := by
  have A2 := (hA.addBlk (midL 0 0 0) 67).addBlk (midL 1 0 0) 67
  have H0 : Hid (Half w cs n 0 1 ((w.alloc (.cells (midL 0 0 0).toArray 67)).alloc (.cells (midL 1 0 0).toArray 67))) := hid ⟨⟨0, by omega, rfl⟩, by omega, by simpa using A2⟩
  simp only [midL, List.replicate, List.nil_append, Nat.reduceSub] at H0
  clear A2
  have H1 := hid h1
  have H2 := hid h2
  clear h1 h2 hA
  go_enter Try.func24, Try.ntmps24
  go_wp2
  go_loopw [7, 8, 9, 10, 11, 12, 13, 14] (fun p7 p8 p9 p10 p11 p12 p13 p14 wr => ∃ lv : Nat, Hid (Half w cs n 0 lv wr))
    (fun _ _ _ _ _ _ _ _ wr => match wr.cell? ⟨w.heap.size + 1, 0, none⟩ with | some (.int _ i) => (200 - i).toNat | _ => 0)
  case atStart => exact ⟨1, H0⟩
  case round =>
    obtain ⟨lv, hH⟩ := hrel
    have hH' := hH.out
    obtain ⟨hp, hl, hA⟩ := hH'
    have hg : wr.heap[w.heap.size + 1]? = some (.cells (midL lv 0 0).toArray 67 (0, 0)) := hA.blk (by simp)
    have c0 : wr.cell? ⟨w.heap.size + 1, 0, none⟩ = some (.int .i64 (lv : Int)) := by rw [cell_at hg]; rfl
    have f0 : wr.frozen? ⟨w.heap.size + 1, 0, none⟩ = false := free_at hg 0
    by_cases hc : (lv : Int) < (n : Int)
    · have h64 : lv < 64 := by have := H2.out; omega
      obtain ⟨l2, e2⟩ : ∃ l2, Hid (l2 = 2 * lv) := ⟨_, hid rfl⟩
      have wl : IntKind.i64.wrap ((lv : Int) * 2) = (l2 : Int) := by rw [e2.out, IntKind.wrap_i64]; omega
      have HN : Hid (Half w cs n 0 l2 (wr.setCell ⟨w.heap.size + 1, 0, none⟩ (.int .i64 (l2 : Int)))) := hid (by
        rw [e2.out]
        obtain ⟨h, hh, rfl⟩ := hp
        refine ⟨⟨h + 1, by have := pow_lt7 h64; omega, by rw [Nat.pow_succ]; omega⟩, by omega, ?_⟩
        have := hA.setBlk 0 (.int .i64 ((2 * 2 ^ h : Nat) : Int))
        simpa [midL] using this)
      have ME : Hid ((wr.setCell ⟨w.heap.size + 1, 0, none⟩ (.int .i64 (l2 : Int))).cell? ⟨w.heap.size + 1, 0, none⟩ = some (.int .i64 (l2 : Int))) := hid (by rw [cell_at (heap_setCell_same hg _)]; simp [midL])
      have LT := hid (show l2 < 200 ∧ lv < l2 by rw [e2.out]; exact ⟨by omega, by obtain ⟨h, _, rfl⟩ := hp; have : 0 < 2 ^ h := Nat.pow_pos (by omega); omega⟩)
      clear hp hl hA hg hH H0 e2
      go_wp2
      go_roundw
      case rel => exact ⟨l2, HN⟩
      case measure => rw [ME.out, c0]; have := LT.out; simp only; omega
    · have A3 := hA.addBlk blankL 90
      have HL : Hid (Later2 w cs n lv wr.heap.size 0 (wr.alloc (.cells blankL.toArray 90))) := hid ⟨by omega, A3.swap⟩
      simp only [blankL] at HL
      have PO := hid (show (∃ h, h ≤ 6 ∧ lv = 2 ^ h) ∧ lv < 2 * n from ⟨hp, hl⟩)
      clear hA hg hH H0 hp hl A3
      go_wp2
      generalize wr.heap.size = q at HL ⊢
      clear c0 f0
      go_loopw [5, 16, 17, 18, 19, 20, 21, 22, 23] (fun p5 p16 p17 p18 p19 p20 p21 p22 p23 wb => ∃ i : Nat, p16 = .int .i64 i ∧ i ≤ 16 ∧ Hid (Later2 w cs n lv q i wb))
        (fun _ p16 _ _ _ _ _ _ _ _ => match p16 with | .int _ i => (16 - i).toNat | _ => 0)
      case atStart => exact ⟨0, rfl, by omega, HL⟩
      case round =>
        obtain ⟨i, rfl, hi, hLi⟩ := hrel
        have hA := hLi.out.2
        by_cases hc2 : (i : Int) < 16
        · have i16 : i < 16 := by omega
          have hg : wr.heap[w.heap.size + 1]? = some (.cells (midL lv q i).toArray 67 (0, 0)) := hA.blk (by simp)
          have c1 : wr.cell? ⟨w.heap.size + 1, 1 + i, none⟩ = some (.pointer none) := by rw [cell_at hg]; simpa using midL_at i16
          have f1 : wr.frozen? ⟨w.heap.size + 1, 1 + i, none⟩ = false := free_at hg _
          have wi : IntKind.i64.wrap ((i : Int) + 1) = ((i + 1 : Nat) : Int) := by rw [IntKind.wrap_i64]; omega
          have HN : Hid (Later2 w cs n lv q (i + 1) (wr.setCell ⟨w.heap.size + 1, 1 + i, none⟩ (.pointer (some ⟨q, 0, none⟩)))) := hid (by
            refine ⟨hLi.out.1, ?_⟩
            have := hA.setBlk (1 + i) (.pointer (some ⟨q, 0, none⟩))
            rw [midL_set i16] at this
            exact this)
          clear hA hg hLi HL
          go_wp2
          go_roundw
          case rel => exact ⟨i + 1, rfl, by omega, HN⟩
          case measure => simp only; omega
        · have i16 : i = 16 := by omega
          have hg : wr.heap[w.heap.size + 1]? = some (.cells (midL lv q i).toArray 67 (0, 0)) := hA.blk (by simp)
          have hr : wr.heap[w.heap.size]? = some (.cells (midL 0 0 0).toArray 67 (0, 0)) := hA.blk (by simp)
          rw [i16] at hg
          obtain ⟨C, hC⟩ : ∃ C, Hid (C = (midL lv q 16).toArray) := ⟨_, hid rfl⟩
          rw [← hC.out] at hg
          have hCs : C.size = 17 := by rw [hC.out]; rfl
          have hC1 : C.all (·.oneCell') = true := by rw [hC.out]; simp [midL, List.replicate, ptr, Value.oneCell']
          have hi67 : (Try.prog.info? 67).map (·.size) = some C.size := by rw [hCs]; kernel_rfl
          have hR := setRow_heap wr w.heap.size _ C 67 (0, 0) hr
          have hF : Fr [w.heap.size] wr (wr.setRow w.heap.size C) := ⟨rfl, rfl, rfl, by simp, fun k _ hk => setRow_other wr w.heap.size k _ (by simpa using hk)⟩
          have hP : All (blkC w.heap.size (midL 0 0 0) 67 :: blkC q blankL 90 :: cs) wr := hA.tail.swap
          have AF := hid (hP.2.2.kept hF hP.2.1)
          have HR := hid hR
          have NL := hid hLi.out.1
          have hold : (midL 0 0 0).toArray.size = C.size := by rw [hCs]; rfl
          have HH := hid (show _ ∧ _ ∧ _ ∧ _ ∧ _ from ⟨hg, hr, hi67, hold, hC1⟩)
          have hCs := hid hCs
          clear hP hF hR hC1 hg hr HL hLi hA i16 hc hi hi67 hold
          go_wp2_with (first | (refine wpList_load_row rfl 67 _ rfl (w.heap.size + 1) rfl 67 C (0, 0) _ HH.out.1 Try.underlying67 rfl HH.out.2.2.1 ?_) | (refine wpList_store_row rfl 67 _ _ rfl w.heap.size C rfl rfl 67 _ HH.out.2.1 HH.out.2.2.1 HH.out.2.2.2.1 HH.out.2.2.2.2 ?_))
          refine bodyPost_ret (v := .agg C) (results_cell_row (fn := Try.f24) rfl _ _ w.heap.size 67 C (0, 0) _ rfl HR.out Try.underlying67 rfl (by rw [hCs.out]; kernel_rfl)) rfl ?_
          refine ⟨lv, q, by rw [hC.out]; rfl, PO.out.1, NL.out, PO.out.2, AF.out⟩

/-- Nothing is written. -/
def noS : Sheets := fun _ => (0, [])
def noN : Nodes := fun _ => (0, .slice none 0 0, [])

theorem blank_tr {P : Pool} {q : Nat} (h : (q, Obj.cells blankL.toArray 90 (0, 0)) ∈ P) : Tr P (List.replicate 16 q) noN := by
  refine ⟨by simp, fun j p hj => ?_, fun k _ => Or.inl ⟨rfl, rfl⟩⟩
  rw [List.getElem?_replicate] at hj
  split at hj
  · cases hj
    refine ⟨blankL, h, rfl, fun i hi => ?_⟩
    obtain rfl | rfl | rfl | rfl | rfl | rfl | rfl | rfl : i = 0 ∨ i = 1 ∨ i = 2 ∨ i = 3 ∨ i = 4 ∨ i = 5 ∨ i = 6 ∨ i = 7 := by omega
    all_goals exact ⟨rfl, rfl⟩
  · cases hj

theorem blank_bk {P : Pool} {q n lv : Nat} (h : (q, Obj.cells blankL.toArray 90 (0, 0)) ∈ P) (hp : ∃ h, h ≤ 6 ∧ lv = 2 ^ h) (h1 : 1 ≤ n) (h2 : n ≤ lv) (h3 : lv < 2 * n) : Bk P n lv (List.replicate 16 q) noN noS :=
  ⟨blank_tr h, fun _ _ _ => rfl, hp, h1, h2, h3, fun _ _ => rfl, fun _ _ => rfl, fun _ => ⟨by simp [noS], by simp [noS]⟩⟩

set_option maxRecDepth 100000 in
set_option maxHeartbeats 4000000 in
theorem New_all {w : World} {cs : List Comp} {P : Pool} {n : Nat} (hA : All (poolC P :: cs) w) (h1 : 1 ≤ n) (h2 : n ≤ 64) :
    Calls Try.prog 7 #[.int .i64 (n : Int)] w fun e w' => ∃ g, e = .returned (.tuple #[.pointer (some ⟨g, 0, none⟩), .int .i64 0]) ∧ Has P g n cs noS w' := by
  have H := hid (newTree_all hA h1 h2)
  have d1 : decide ((n : Int) < 1) = false := by simp; omega
  have d2 : decide ((n : Int) > 64) = false := by simp; omega
  have h1 := hid h1
  clear h2 hA
  go_enter Try.func7, Try.ntmps7
  go_wp2_with (go_at_call 24; refine H.out.mono ?_; rintro e w2 ⟨lv, q, rfl, hp, hn, hl, A2⟩; simp only [treeL, List.nil_append, List.replicate, List.map, ptr]; have A2 := hid A2; have hp := hid hp; have hn := hid hn; have hl := hid hl)
  go_ret2
  refine ⟨_, rfl, ?_⟩
  have A3 := A2.out.poolTake.addBlk (bookL n lv (List.replicate 16 q)) 70
  exact ⟨_, lv, _, noN, A3.swap, blank_bk (by simp) hp.out h1.out hn.out hl.out, fun x hx => by simp [hx]⟩

set_option maxHeartbeats 1000000 in
theorem New_bad {w : World} {n : Int} (h : n < 1 ∨ n > 64) : Calls Try.prog 7 #[.int .i64 n] w fun e w' => e = .returned (.tuple #[.pointer none, .int .i64 60]) ∧ w' = w := by
  by_cases h1 : n < 1
  · have d1 : decide (n < 1) = true := by simpa using h1
    go_enter Try.func7, Try.ntmps7
    go_wp2
    go_ret2
    exact ⟨rfl, rfl⟩
  · have d1 : decide (n < 1) = false := by simpa using h1
    have d2 : n > 64 := by omega
    go_enter Try.func7, Try.ntmps7
    go_wp2
    go_ret2
    exact ⟨rfl, rfl⟩

end Go.Proofs.Ytaomhahmpbfjhaa

namespace Go.Proofs.Ytaomhahmpbfjhaa
open Go.RowKit Go.Sort
set_option linter.unusedVariables false

/-- The nodes that are looked at, from one of some height down. -/
def vis (N : Nodes) (a : Nat) : Nat → Nat → List Nat
  | 0, k => [k]
  | e + 1, k => if (N k).1 ≤ a then [k] else k :: (vis N a e (2 * k) ++ vis N a e (2 * k + 1))

/-- A node of some height. -/
def Ht (lv e k : Nat) : Prop := lv ≤ k * 2 ^ e ∧ k * 2 ^ e + 2 ^ e ≤ 2 * lv

theorem Ht.leaf {lv k : Nat} (h : Ht lv 0 k) : lv ≤ k ∧ k < 2 * lv := by
  unfold Ht at h
  simp at h
  omega
theorem Ht.inner {lv e k : Nat} (h : Ht lv (e + 1) k) : k < lv ∧ Ht lv e (2 * k) ∧ Ht lv e (2 * k + 1) := by
  unfold Ht at *
  have hp : 0 < 2 ^ e := Nat.pow_pos (by omega)
  have e1 : k * 2 ^ (e + 1) = 2 * (k * 2 ^ e) := by rw [Nat.pow_succ, ← Nat.mul_assoc]; omega
  have e2 : 2 * k * 2 ^ e = 2 * (k * 2 ^ e) := by rw [Nat.mul_assoc]
  have e3 : (2 * k + 1) * 2 ^ e = 2 * (k * 2 ^ e) + 2 ^ e := by rw [Nat.add_mul, e2]; omega
  have e4 : 2 ^ (e + 1) = 2 * 2 ^ e := by rw [Nat.pow_succ]; omega
  have e5 : k ≤ k * 2 ^ e := Nat.le_mul_of_pos_right k hp
  rw [e1, e4] at h
  rw [e2, e3]
  omega
theorem Ht.small {lv e k : Nat} (h : Ht lv e k) (hl : lv ≤ 64) : k < 128 := by
  unfold Ht at h
  have hp : 0 < 2 ^ e := Nat.pow_pos (by omega)
  have e5 : k ≤ k * 2 ^ e := Nat.le_mul_of_pos_right k hp
  omega

set_option maxHeartbeats 4000000 in
theorem look47 {g o lv a : Nat} {m : Nat} {N : Nodes} (I X : List Nat → World → Prop) (hl : lv ≤ 64)
    (hV : ∀ l w, I l w → View w g o lv N)
    (V : List Nat) (hs : ∀ (l : List Nat) (k : Nat) (rest : List Nat) (w : World), l ++ k :: rest = V → k < 2 * lv → I l w → Calls Try.prog 47 #[.int .i64 (k : Int), .pointer (some ⟨m, 0, none⟩)] w fun e w' => (e = .returned (.bool true) ∧ I (l ++ [k]) w') ∨ (e = .returned (.bool false) ∧ X (l ++ [k]) w')) :
    ∀ e k l rest w, Ht lv e k → l ++ vis N a e k ++ rest = V → I l w → Calls Try.prog 40 #[.pointer (some ⟨g, o, none⟩), .int .i64 (k : Int), .int .i64 (a : Int), .func (.func 47) #[] #[.pointer (some ⟨m, 0, none⟩)]] w fun r w' => (r = .returned (.bool true) ∧ I (l ++ vis N a e k) w') ∨ (r = .returned (.bool false) ∧ ∃ pre, pre <+: vis N a e k ∧ X (l ++ pre) w') := by
  intro e
  induction e with
  | zero =>
    intro k l rest w hh hVV hI
    have hk := hh.leaf
    have C := hid (hs l k rest w (by simpa [vis] using hVV) (by omega) hI)
    have hk2 := hid (show lv ≤ k from hk.1)
    have VW := hid hV
    clear hs hV hI hk hh hVV
    go_enter Try.func40, Try.ntmps40
    go_wp2_with fail
    go_at_call 47
    refine C.out.mono ?_
    rintro r w2 (⟨rfl, hI⟩ | ⟨rfl, hX⟩)
    · have hI := hid hI
      have L := hid (isLeaf_any (k := k) (VW.out _ _ hI.out).leaves)
      rw [show decide (lv ≤ k) = true by simpa using hk2.out] at L
      go_wp2_with (go_at_call 43; refine L.out.mono ?_; rintro e w' ⟨rfl, rfl⟩)
      go_ret
      exact Or.inl ⟨rfl, hI.out⟩
    · have hX := hid hX
      go_wp2
      go_ret
      exact Or.inr ⟨rfl, _, List.prefix_refl _, hX.out⟩
  | succ e ih =>
    intro k l rest w hh hVV hI
    have hk128 := hh.small hl
    obtain ⟨hklv, h1, h2⟩ := hh.inner
    obtain ⟨rs, hrs⟩ : ∃ rs, vis N a (e + 1) k = k :: rs := by unfold vis; split <;> exact ⟨_, rfl⟩
    have C := hid (hs l k (rs ++ rest) w (by rw [hrs] at hVV; simpa using hVV) (by omega) hI)
    clear hrs rs
    have VV := hid hVV
    have VW := hid hV
    have IH := hid ih
    have B := hid (show k < 128 ∧ k < lv from ⟨hk128, hklv⟩)
    have HT := hid (show _ ∧ _ from ⟨h1, h2⟩)
    clear hs hV hI hh h1 h2 ih hk128 hklv hl hVV
    go_enter Try.func40, Try.ntmps40
    go_wp2_with fail
    go_at_call 47
    refine C.out.mono ?_
    rintro r w2 (⟨rfl, hI⟩ | ⟨rfl, hX⟩)
    · have hv := VW.out _ _ hI
      obtain ⟨p, n1, n2, _, _⟩ := hv.node k B.out.1
      have L := hid (isLeaf_any (k := k) hv.leaves)
      rw [show decide (lv ≤ k) = false by have := B.out.2; simp; omega] at L
      have ND := hid (node_any B.out.1 n1)
      have hI := hid hI
      generalize k % 8 * 2 = r at *
      by_cases hc : (N k).1 ≤ a
      · have E : Hid (vis N a (e + 1) k = [k]) := hid (by simp only [vis, if_pos hc])
        have hc' : ((N k).1 : Int) ≤ (a : Int) := by omega
        generalize (N k).1 = x at *
        clear hv n1 hc
        go_wp2_with (first | (go_at_call 43; refine L.out.mono ?_; rintro e w' ⟨rfl, rfl⟩) | (go_at_call 42; refine ND.out.mono ?_; rintro e w' ⟨rfl, rfl⟩))
        go_ret
        exact Or.inl ⟨rfl, by rw [E.out]; exact hI.out⟩
      · have E : Hid (vis N a (e + 1) k = k :: (vis N a e (2 * k) ++ vis N a e (2 * k + 1))) := hid (by simp only [vis, if_neg hc])
        have hc' : ¬ ((N k).1 : Int) ≤ (a : Int) := by omega
        have w1 : IntKind.i64.wrap (2 * (k : Int)) = ((2 * k : Nat) : Int) := by have := B.out.1; rw [IntKind.wrap_i64]; omega
        have w2 : IntKind.i64.wrap (((2 * k : Nat) : Int) + 1) = ((2 * k + 1 : Nat) : Int) := by have := B.out.1; rw [IntKind.wrap_i64]; omega
        have K1 := hid (IH.out (2 * k) (l ++ [k]) (vis N a e (2 * k + 1) ++ rest) _ HT.out.1 (by have := VV.out; rw [E.out] at this; simpa using this) hI.out)
        have K2 := hid (fun w2 => IH.out (2 * k + 1) (l ++ [k] ++ vis N a e (2 * k)) rest w2 HT.out.2 (by have := VV.out; rw [E.out] at this; simpa using this))
        generalize (N k).1 = x at *
        generalize vis N a e (2 * k) = v1 at *
        generalize vis N a e (2 * k + 1) = v2 at *
        generalize 2 * k + 1 = k2 at *
        generalize 2 * k = k1 at *
        clear hv n1 hc IH VV
        go_wp2_with (first | (go_at_call 43; refine L.out.mono ?_; rintro e w' ⟨rfl, rfl⟩) | (go_at_call 42; refine ND.out.mono ?_; rintro e w' ⟨rfl, rfl⟩))
        go_at_call 40
        refine K1.out.mono ?_
        rintro r2 w3 (⟨rfl, hI3⟩ | ⟨rfl, pre, hpre, hX3⟩)
        · have K2 := hid (K2.out _ hI3)
          have hI3 := hid hI3
          go_wp2_with fail
          go_at_call 40
          refine K2.out.mono ?_
          rintro r4 w4 (⟨rfl, hI4⟩ | ⟨rfl, pre, hpre, hX4⟩)
          · have hI4 := hid hI4
            go_wp2
            go_ret
            exact Or.inl ⟨rfl, by rw [E.out]; simpa using hI4.out⟩
          · have hX4 := hid hX4
            have hpre := hid hpre
            go_wp2
            go_ret
            exact Or.inr ⟨rfl, k :: (v1 ++ pre), by rw [E.out]; simpa using hpre.out, by simpa using hX4.out⟩
        · have hX3 := hid hX3
          have hpre := hid hpre
          go_wp2
          go_ret
          exact Or.inr ⟨rfl, k :: pre, by rw [E.out]; simpa using hpre.out.trans (List.prefix_append _ _), by simpa using hX3.out⟩
    · have hX := hid hX
      go_wp2
      go_ret
      exact Or.inr ⟨rfl, [k], by unfold vis; split <;> simp, hX.out⟩

set_option maxHeartbeats 4000000 in
theorem look41 {g o lv a : Nat} {m1 m2 m3 : Nat} {N : Nodes} (I X : List Nat → World → Prop) (hl : lv ≤ 64)
    (hV : ∀ l w, I l w → View w g o lv N)
    (V : List Nat) (hs : ∀ (l : List Nat) (k : Nat) (rest : List Nat) (w : World), l ++ k :: rest = V → k < 2 * lv → I l w → Calls Try.prog 41 #[.int .i64 (k : Int), .pointer (some ⟨m1, 0, none⟩), .pointer (some ⟨m2, 0, none⟩), .pointer (some ⟨m3, 0, none⟩)] w fun e w' => (e = .returned (.bool true) ∧ I (l ++ [k]) w') ∨ (e = .returned (.bool false) ∧ X (l ++ [k]) w')) :
    ∀ e k l rest w, Ht lv e k → l ++ vis N a e k ++ rest = V → I l w → Calls Try.prog 40 #[.pointer (some ⟨g, o, none⟩), .int .i64 (k : Int), .int .i64 (a : Int), .func (.func 41) #[] #[.pointer (some ⟨m1, 0, none⟩), .pointer (some ⟨m2, 0, none⟩), .pointer (some ⟨m3, 0, none⟩)]] w fun r w' => (r = .returned (.bool true) ∧ I (l ++ vis N a e k) w') ∨ (r = .returned (.bool false) ∧ ∃ pre, pre <+: vis N a e k ∧ X (l ++ pre) w') := by
  intro e
  induction e with
  | zero =>
    intro k l rest w hh hVV hI
    have hk := hh.leaf
    have C := hid (hs l k rest w (by simpa [vis] using hVV) (by omega) hI)
    have hk2 := hid (show lv ≤ k from hk.1)
    have VW := hid hV
    clear hs hV hI hk hh hVV
    go_enter Try.func40, Try.ntmps40
    go_wp2_with fail
    go_at_call 41
    refine C.out.mono ?_
    rintro r w2 (⟨rfl, hI⟩ | ⟨rfl, hX⟩)
    · have hI := hid hI
      have L := hid (isLeaf_any (k := k) (VW.out _ _ hI.out).leaves)
      rw [show decide (lv ≤ k) = true by simpa using hk2.out] at L
      go_wp2_with (go_at_call 43; refine L.out.mono ?_; rintro e w' ⟨rfl, rfl⟩)
      go_ret
      exact Or.inl ⟨rfl, hI.out⟩
    · have hX := hid hX
      go_wp2
      go_ret
      exact Or.inr ⟨rfl, _, List.prefix_refl _, hX.out⟩
  | succ e ih =>
    intro k l rest w hh hVV hI
    have hk128 := hh.small hl
    obtain ⟨hklv, h1, h2⟩ := hh.inner
    obtain ⟨rs, hrs⟩ : ∃ rs, vis N a (e + 1) k = k :: rs := by unfold vis; split <;> exact ⟨_, rfl⟩
    have C := hid (hs l k (rs ++ rest) w (by rw [hrs] at hVV; simpa using hVV) (by omega) hI)
    clear hrs rs
    have VV := hid hVV
    have VW := hid hV
    have IH := hid ih
    have B := hid (show k < 128 ∧ k < lv from ⟨hk128, hklv⟩)
    have HT := hid (show _ ∧ _ from ⟨h1, h2⟩)
    clear hs hV hI hh h1 h2 ih hk128 hklv hl hVV
    go_enter Try.func40, Try.ntmps40
    go_wp2_with fail
    go_at_call 41
    refine C.out.mono ?_
    rintro r w2 (⟨rfl, hI⟩ | ⟨rfl, hX⟩)
    · have hv := VW.out _ _ hI
      obtain ⟨p, n1, n2, _, _⟩ := hv.node k B.out.1
      have L := hid (isLeaf_any (k := k) hv.leaves)
      rw [show decide (lv ≤ k) = false by have := B.out.2; simp; omega] at L
      have ND := hid (node_any B.out.1 n1)
      have hI := hid hI
      generalize k % 8 * 2 = r at *
      by_cases hc : (N k).1 ≤ a
      · have E : Hid (vis N a (e + 1) k = [k]) := hid (by simp only [vis, if_pos hc])
        have hc' : ((N k).1 : Int) ≤ (a : Int) := by omega
        generalize (N k).1 = x at *
        clear hv n1 hc
        go_wp2_with (first | (go_at_call 43; refine L.out.mono ?_; rintro e w' ⟨rfl, rfl⟩) | (go_at_call 42; refine ND.out.mono ?_; rintro e w' ⟨rfl, rfl⟩))
        go_ret
        exact Or.inl ⟨rfl, by rw [E.out]; exact hI.out⟩
      · have E : Hid (vis N a (e + 1) k = k :: (vis N a e (2 * k) ++ vis N a e (2 * k + 1))) := hid (by simp only [vis, if_neg hc])
        have hc' : ¬ ((N k).1 : Int) ≤ (a : Int) := by omega
        have w1 : IntKind.i64.wrap (2 * (k : Int)) = ((2 * k : Nat) : Int) := by have := B.out.1; rw [IntKind.wrap_i64]; omega
        have w2 : IntKind.i64.wrap (((2 * k : Nat) : Int) + 1) = ((2 * k + 1 : Nat) : Int) := by have := B.out.1; rw [IntKind.wrap_i64]; omega
        have K1 := hid (IH.out (2 * k) (l ++ [k]) (vis N a e (2 * k + 1) ++ rest) _ HT.out.1 (by have := VV.out; rw [E.out] at this; simpa using this) hI.out)
        have K2 := hid (fun w2 => IH.out (2 * k + 1) (l ++ [k] ++ vis N a e (2 * k)) rest w2 HT.out.2 (by have := VV.out; rw [E.out] at this; simpa using this))
        generalize (N k).1 = x at *
        generalize vis N a e (2 * k) = v1 at *
        generalize vis N a e (2 * k + 1) = v2 at *
        generalize 2 * k + 1 = k2 at *
        generalize 2 * k = k1 at *
        clear hv n1 hc IH VV
        go_wp2_with (first | (go_at_call 43; refine L.out.mono ?_; rintro e w' ⟨rfl, rfl⟩) | (go_at_call 42; refine ND.out.mono ?_; rintro e w' ⟨rfl, rfl⟩))
        go_at_call 40
        refine K1.out.mono ?_
        rintro r2 w3 (⟨rfl, hI3⟩ | ⟨rfl, pre, hpre, hX3⟩)
        · have K2 := hid (K2.out _ hI3)
          have hI3 := hid hI3
          go_wp2_with fail
          go_at_call 40
          refine K2.out.mono ?_
          rintro r4 w4 (⟨rfl, hI4⟩ | ⟨rfl, pre, hpre, hX4⟩)
          · have hI4 := hid hI4
            go_wp2
            go_ret
            exact Or.inl ⟨rfl, by rw [E.out]; simpa using hI4.out⟩
          · have hX4 := hid hX4
            have hpre := hid hpre
            go_wp2
            go_ret
            exact Or.inr ⟨rfl, k :: (v1 ++ pre), by rw [E.out]; simpa using hpre.out, by simpa using hX4.out⟩
        · have hX3 := hid hX3
          have hpre := hid hpre
          go_wp2
          go_ret
          exact Or.inr ⟨rfl, k :: pre, by rw [E.out]; simpa using hpre.out.trans (List.prefix_append _ _), by simpa using hX3.out⟩
    · have hX := hid hX
      go_wp2
      go_ret
      exact Or.inr ⟨rfl, [k], by unfold vis; split <;> simp, hX.out⟩

end Go.Proofs.Ytaomhahmpbfjhaa

namespace Go.Proofs.Ytaomhahmpbfjhaa
open Go.RowKit Go.Sort
set_option linter.unusedVariables false

theorem vis_len (N : Nodes) (a : Nat) : ∀ e k, (vis N a e k).length + 1 ≤ 2 ^ (e + 1)
  | 0, k => by simp [vis]
  | e + 1, k => by
    have h1 := vis_len N a e (2 * k)
    have h2 := vis_len N a e (2 * k + 1)
    have e4 : 2 ^ (e + 1 + 1) = 2 * 2 ^ (e + 1) := by rw [Nat.pow_succ]; omega
    have hp : 0 < 2 ^ e := Nat.pow_pos (by omega)
    have e5 : 2 ^ (e + 1) = 2 * 2 ^ e := by rw [Nat.pow_succ]; omega
    unfold vis
    split
    · simp; omega
    · simp; omega

theorem vis_127 (N : Nodes) (a : Nat) {e : Nat} (h : e ≤ 6) (k : Nat) : (vis N a e k).length ≤ 127 := by
  have := vis_len N a e k
  have h2 : 2 ^ (e + 1) ≤ 2 ^ 7 := Nat.pow_le_pow_right (by omega) (by omega)
  omega

theorem Ht.root (h : Nat) : Ht (2 ^ h) h 1 := by unfold Ht; omega

theorem wrap_next (c : Nat) : IntKind.i64.wrap (IntKind.i64.wrap (c : Int) + 1) = IntKind.i64.wrap ((c + 1 : Nat) : Int) := by
  rw [IntKind.wrap_i64, IntKind.wrap_i64, IntKind.wrap_i64]
  omega

set_option maxHeartbeats 1000000 in
theorem cnt47 {w : World} {m : Nat} {c : Int} {k : Nat} {cs : List Comp} (hA : All (blkC m [.int .i64 c] 3 :: cs) w) :
    Calls Try.prog 47 #[.int .i64 (k : Int), .pointer (some ⟨m, 0, none⟩)] w fun e w' => e = .returned (.bool true) ∧ All (blkC m [.int .i64 (IntKind.i64.wrap (c + 1))] 3 :: cs) w' := by
  have hg : w.heap[m]? = some (.cells [.int .i64 c].toArray 3 (0, 0)) := hA.1.2.1
  have c0 : w.cell? ⟨m, 0, none⟩ = some (.int .i64 c) := by rw [cell_at hg]; rfl
  have f0 : w.frozen? ⟨m, 0, none⟩ = false := free_at hg 0
  have A2 := hid (hA.setBlk 0 (.int .i64 (IntKind.i64.wrap (c + 1))))
  generalize hc : IntKind.i64.wrap (c + 1) = c2 at *
  clear hA hg
  go_enter Try.func47, Try.ntmps47
  go_wp2
  go_ret
  exact ⟨rfl, A2.out⟩

/-- How many nodes are looked at. -/
def looksN (N : Nodes) (at_ : Int) (h : Nat) : Nat := (vis N at_.toNat h 1).length

set_option maxHeartbeats 4000000 in
theorem Looks_all {w : World} {g n h : Nat} {ps : List Nat} {N : Nodes} {P : Pool} {cs : List Comp} {S : Sheets} {at_ : Int} (hA : All (poolC P :: blkC g (bookL n (2 ^ h) ps) 70 :: cs) w) (hB : Bk P n (2 ^ h) ps N S) (hh : h ≤ 6) :
    Calls Try.prog 23 #[.pointer (some ⟨g, 0, none⟩), .int .i64 at_] w fun e w' => e = .returned (.int .i64 (looksN N at_ h)) ∧ All (poolC P :: blkC g (bookL n (2 ^ h) ps) 70 :: cs) w' := by
  have A1 := hA.addBlk [.int .i64 0] 3
  have e00 : IntKind.i64.wrap (([] : List Nat).length : Int) = 0 := by decide
  have key := look47 (g := g) (o := 1) (lv := 2 ^ h) (a := at_.toNat) (m := w.heap.size) (N := N) (fun l w' => All (blkC w.heap.size [.int .i64 (IntKind.i64.wrap (l.length : Int))] 3 :: poolC P :: blkC g (bookL n (2 ^ h) ps) 70 :: cs) w') (fun _ _ => False) hB.lv64
    (fun l w' hI => hB.tr.view (pre := [.int .i64 (n : Int)]) (t := 70) (fun x hx => hI.tail.poolIn hx) (hI.blk (by simp [bookL])))
    (vis N at_.toNat h 1) (fun l k rest w' _ hk hI => (cnt47 hI).mono (fun e w2 (h : _ ∧ _) => Or.inl ⟨h.1, by
      have h2 := h.2
      rw [wrap_next] at h2
      simpa using h2⟩)) h 1 [] [] _ (Ht.root h) (by simp) (by rw [e00]; exact A1)
  have K : Hid (Calls Try.prog 40 #[.pointer (some ⟨g, 1, none⟩), .int .i64 1, .int .i64 (at_.toNat : Int), .func (.func 47) #[] #[.pointer (some ⟨w.heap.size, 0, none⟩)]] (w.alloc (.cells #[.int .i64 0] 3)) fun r w' => r = .returned (.bool true) ∧ All (blkC w.heap.size [.int .i64 (looksN N at_ h)] 3 :: poolC P :: blkC g (bookL n (2 ^ h) ps) 70 :: cs) w') := hid (key.mono (fun r w' hr => by
    rcases hr with ⟨rfl, hI⟩ | ⟨_, _, _, hX⟩
    · refine ⟨rfl, ?_⟩
      have h127 := vis_127 N at_.toNat hh 1
      have e : IntKind.i64.wrap ((([] ++ vis N at_.toNat h 1 : List Nat).length : Nat) : Int) = ((looksN N at_ h : Nat) : Int) := by
        rw [List.nil_append, IntKind.wrap_i64]; unfold looksN; omega
      rw [e] at hI
      exact hI
    · exact hX.elim))
  generalize looksN N at_ h = res at *
  have e1 : ∃ a : Int, Hid (a = (at_.toNat : Int)) := ⟨_, hid rfl⟩
  obtain ⟨a, ha⟩ := e1
  rw [← ha.out] at K
  clear key A1 hA hB hh e00
  by_cases hc : at_ < 0
  · have ha0 : a = 0 := by rw [ha.out]; omega
    subst ha0
    clear ha
    go_enter Try.func23, Try.ntmps23
    go_wp2_with fail
    go_at_call 40
    refine K.out.mono ?_
    rintro r w2 ⟨rfl, A2⟩
    have c0 : w2.cell? ⟨w.heap.size, 0, none⟩ = some (.int .i64 (res : Int)) := by rw [cell_at (show w2.heap[w.heap.size]? = some (.cells #[.int .i64 (res : Int)] 3 (0, 0)) from A2.1.2.1)]; rfl
    have A2 := hid A2.tail
    go_wp2
    go_ret
    exact ⟨rfl, A2.out⟩
  · have ha0 : a = at_ := by rw [ha.out]; omega
    subst ha0
    clear ha
    go_enter Try.func23, Try.ntmps23
    go_wp2_with fail
    go_at_call 40
    refine K.out.mono ?_
    rintro r w2 ⟨rfl, A2⟩
    have c0 : w2.cell? ⟨w.heap.size, 0, none⟩ = some (.int .i64 (res : Int)) := by rw [cell_at (show w2.heap[w.heap.size]? = some (.cells #[.int .i64 (res : Int)] 3 (0, 0)) from A2.1.2.1)]; rfl
    have A2 := hid A2.tail
    go_wp2
    go_ret
    exact ⟨rfl, A2.out⟩

end Go.Proofs.Ytaomhahmpbfjhaa

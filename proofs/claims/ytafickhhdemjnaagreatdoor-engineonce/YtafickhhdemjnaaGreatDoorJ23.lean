import Derived.Test.YtafickhhdemjnaaGreatDoorJ22
import Derived.Deep.QuietTactic
import Derived.BigQuiet
namespace Go.Proofs.YtafickhhdemjnaaGreatDoor
open Go.RowKit
set_option linter.unusedVariables false

theorem sel_cons (N : Nodes) (lv a k : Nat) (l : List Nat) : sel N lv a (k :: l) = (if lv ≤ k ∧ a < (N k).1 then [(k - lv, (N k).1, (N k).2.2)] else []) ++ sel N lv a l := by
  unfold sel
  by_cases h : lv ≤ k ∧ a < (N k).1
  · simp [h]
  · simp [h]

/-- Where something is newer, a sheet is found. -/
theorem vis_found {N : Nodes} {lv a : Nat} (hO : ∀ j, 1 ≤ j → j < lv → Ord N j) : ∀ e k, Ht lv e k → 1 ≤ k → a < (N k).1 → 1 ≤ (sel N lv a (vis N a e k)).length
  | 0, k, hh, hk, ha => by
    have := hh.leaf
    simp [vis, sel, this.1, ha]
  | e + 1, k, hh, hk, ha => by
    obtain ⟨h1, h2, h3⟩ := hh.inner
    have ho := hO k hk h1
    unfold Ord at ho
    have hc : ¬ (N k).1 ≤ a := by omega
    rw [vis, if_neg hc, sel_cons, if_neg (by omega), List.nil_append, sel_append, List.length_append]
    by_cases h4 : a < (N (2 * k)).1
    · have := vis_found (a := a) hO e (2 * k) h2 (by omega) h4
      omega
    · have := vis_found (a := a) hO e (2 * k + 1) h3 (by omega) (by omega)
      omega

/-- No more nodes than so many for each sheet that is found. -/
theorem vis_bound {N : Nodes} {lv a : Nat} (hO : ∀ j, 1 ≤ j → j < lv → Ord N j) : ∀ e k, Ht lv e k → 1 ≤ k → (vis N a e k).length ≤ 1 + 2 * e * (sel N lv a (vis N a e k)).length
  | 0, k, hh, hk => by simp [vis]
  | e + 1, k, hh, hk => by
    obtain ⟨h1, h2, h3⟩ := hh.inner
    by_cases hc : (N k).1 ≤ a
    · rw [vis, if_pos hc]; simp
    · have hf := vis_found (a := a) hO (e + 1) k hh hk (by omega)
      have b1 := vis_bound (a := a) hO e (2 * k) h2 (by omega)
      have b2 := vis_bound (a := a) hO e (2 * k + 1) h3 (by omega)
      rw [vis, if_neg hc, sel_cons, if_neg (by omega), List.nil_append, sel_append, List.length_append] at hf ⊢
      rw [List.length_cons, List.length_append]
      generalize (sel N lv a (vis N a e (2 * k))).length = f1 at *
      generalize (sel N lv a (vis N a e (2 * k + 1))).length = f2 at *
      have e1 : 2 * e * (f1 + f2) = 2 * e * f1 + 2 * e * f2 := Nat.mul_add _ _ _
      have e2 : 2 * (e + 1) * (f1 + f2) = 2 * e * (f1 + f2) + 2 * (f1 + f2) := by rw [Nat.mul_add 2 e 1, Nat.add_mul]
      omega

theorem vis_pos (N : Nodes) (a e k : Nat) : 1 ≤ (vis N a e k).length := by
  cases e with
  | zero => simp [vis]
  | succ e => unfold vis; split <;> simp
theorem vis_one {N : Nodes} {a e k : Nat} (h : (N k).1 ≤ a) : (vis N a e k).length = 1 := by
  cases e with
  | zero => simp [vis]
  | succ e => rw [vis, if_pos h]; rfl
theorem vis_three {N : Nodes} {a e k : Nat} (h : ¬ (N k).1 ≤ a) : 3 ≤ (vis N a (e + 1) k).length := by
  rw [vis, if_neg h]
  have h1 := vis_pos N a e (2 * k)
  have h2 := vis_pos N a e (2 * k + 1)
  simp only [List.length_cons, List.length_append]
  omega

/-- What the law asks of a book. -/
theorem looks_ok {P : Pool} {n h : Nat} {ps : List Nat} {N : Nodes} {S : Sheets} (hB : Bk P n (2 ^ h) ps N S) (hh : h ≤ 6) (at_ : Int) :
    let k := (sel N (2 ^ h) at_.toNat (vis N at_.toNat h 1)).length
    let lk := looksN N at_ h
    k ≤ 127 ∧ lk ≤ 127 ∧ (k = 0 → lk = 1) ∧ (k ≠ 0 → lk ≤ 1 + 12 * k ∧ 1 ≤ lk ∧ (n > 1 ∨ lk = 1) ∧ (n = 1 ∨ lk ≥ 3)) := by
  intro k lk
  have hO := hB.ord
  have b := vis_bound (a := at_.toNat) hO h 1 (Ht.root h) (by omega)
  have l127 := vis_127 N at_.toNat hh 1
  have n1 := hB.n1
  have nlv := hB.nlv
  have lvn := hB.lvn
  have k64 : k ≤ 127 := Nat.le_trans (sel_len _ _ _ _) l127
  refine ⟨k64, l127, fun hk => ?_, fun hk => ?_⟩
  · by_cases hc : (N 1).1 ≤ at_.toNat
    · exact vis_one hc
    · have := vis_found hO h 1 (Ht.root h) (by omega) (by omega : at_.toNat < (N 1).1)
      have hk' : (sel N (2 ^ h) at_.toNat (vis N at_.toNat h 1)).length = 0 := hk
      omega
  · have hc : ¬ (N 1).1 ≤ at_.toNat := by
      intro hc
      apply hk
      show (sel N (2 ^ h) at_.toNat (vis N at_.toNat h 1)).length = 0
      have h1 : vis N at_.toNat h 1 = [1] := by
        cases h with
        | zero => rfl
        | succ e => rw [vis, if_pos hc]
      rw [h1, sel_cons, if_neg (by omega)]
      rfl
    have hb : lk ≤ 1 + 2 * h * k := b
    have h12 : 2 * h * k ≤ 12 * k := Nat.mul_le_mul_right k (by omega)
    refine ⟨by omega, vis_pos _ _ _ _, ?_, ?_⟩
    · by_cases hn : n > 1
      · exact .inl hn
      · right
        have : h = 0 := by
          cases h with
          | zero => rfl
          | succ e =>
            have : 2 ^ (e + 1) = 2 * 2 ^ e := by rw [Nat.pow_succ]; omega
            have hp : 0 < 2 ^ e := Nat.pow_pos (by omega)
            omega
        subst this
        rfl
    · by_cases hn : n = 1
      · exact .inl hn
      · right
        cases h with
        | zero => simp at nlv; omega
        | succ e => exact vis_three hc

end Go.Proofs.YtafickhhdemjnaaGreatDoor

namespace Go.Proofs.YtafickhhdemjnaaGreatDoor
open Go.RowKit
set_option linter.unusedVariables false

/-- The sheets that are newer, by rising numbers. -/
def newS (S : Sheets) (a : Nat) (l : List Nat) : List (Nat × Nat × List UInt8) := l.filterMap fun i => if a < (S i).1 then some (i, (S i).1, (S i).2) else none
theorem newS_append (S : Sheets) (a : Nat) (l m : List Nat) : newS S a (l ++ m) = newS S a l ++ newS S a m := by simp [newS]
theorem newS_nil {S : Sheets} {a : Nat} {l : List Nat} (h : ∀ i ∈ l, (S i).1 ≤ a) : newS S a l = [] := by
  unfold newS
  refine List.filterMap_eq_nil_iff.2 (fun i hi => ?_)
  have := h i hi
  rw [if_neg (by omega)]

/-- What is found is what is newer. -/
theorem Bk.found {P : Pool} {n h a : Nat} {ps : List Nat} {N : Nodes} {S : Sheets} (hB : Bk P n (2 ^ h) ps N S) : ∀ e d q, d + e = h → q < 2 ^ d → sel N (2 ^ h) a (vis N a e (2 ^ d + q)) = newS S a (List.range' (q * 2 ^ e) (2 ^ e))
  | 0, d, q, hd, hq => by
    have hd : d = h := by omega
    subst hd
    have hsh := hB.sh q hq
    have e1 : (N (2 ^ d + q)).1 = (S q).1 := by rw [← hsh]
    have e2 : (N (2 ^ d + q)).2.2 = (S q).2 := by rw [← hsh]
    simp only [vis, sel, newS, Nat.pow_zero, Nat.mul_one, List.range'_one, List.filterMap_cons, List.filterMap_nil, e1, e2, Nat.add_sub_cancel_left, Nat.le_add_right, true_and]
  | e + 1, d, q, hd, hq => by
    have h2 : 2 ^ d < 2 ^ h := Nat.pow_lt_pow_right (by omega) (by omega)
    have h3 : 2 ^ (d + 1) ≤ 2 ^ h := Nat.pow_le_pow_right (by omega) (by omega)
    have h4 : 2 ^ (d + 1) = 2 * 2 ^ d := by rw [Nat.pow_succ]; omega
    have hp : 0 < 2 ^ d := Nat.pow_pos (by omega)
    have hat := hB.at (e + 1) d q hd hq
    by_cases hc : (N (2 ^ d + q)).1 ≤ a
    · rw [vis, if_pos hc, newS_nil (fun i hi => ?_), sel_cons, if_neg (by omega)]
      · rfl
      · obtain ⟨j, hj, rfl⟩ := List.mem_range'.1 hi
        have := mx_le S (q * 2 ^ (e + 1)) hj
        rw [Nat.one_mul]
        omega
    · have c1 := Bk.found (a := a) hB e (d + 1) (2 * q) (by omega) (by omega)
      have c2 := Bk.found (a := a) hB e (d + 1) (2 * q + 1) (by omega) (by omega)
      rw [h4] at c1 c2
      have e1 : 2 * (2 ^ d + q) = 2 * 2 ^ d + 2 * q := by omega
      have e2 : 2 * (2 ^ d + q) + 1 = 2 * 2 ^ d + (2 * q + 1) := by omega
      have hlt : 2 ^ d + q < 2 ^ h := by omega
      rw [vis, if_neg hc, sel_cons, if_neg (by omega), List.nil_append, sel_append, e2, e1, c1, c2, ← newS_append]
      have h5 : 2 ^ (e + 1) = 2 ^ e + 2 ^ e := by rw [Nat.pow_succ]; omega
      have h6 : q * 2 ^ (e + 1) = 2 * q * 2 ^ e := by rw [Nat.pow_succ, Nat.mul_comm (2 ^ e) 2, ← Nat.mul_assoc, Nat.mul_comm q 2]
      have h7 : (2 * q + 1) * 2 ^ e = 2 * q * 2 ^ e + 2 ^ e := by rw [Nat.add_mul, Nat.one_mul]
      rw [h6, h5, h7]
      congr 1
      have := List.range'_append (s := 2 * q * 2 ^ e) (m := 2 ^ e) (n := 2 ^ e) (step := 1)
      rw [Nat.one_mul] at this
      exact this

theorem Bk.foundAll {P : Pool} {n h a : Nat} {ps : List Nat} {N : Nodes} {S : Sheets} (hB : Bk P n (2 ^ h) ps N S) : sel N (2 ^ h) a (vis N a h 1) = newS S a (List.range (2 ^ h)) := by
  have := hB.found (a := a) h 0 0 (by omega) (by simp)
  simpa [List.range_eq_range'] using this

set_option maxRecDepth 100000 in
set_option maxHeartbeats 4000000 in
theorem Snap_all {w : World} {g n lv : Nat} {ps : List Nat} {P : Pool} {cs : List Comp} {N : Nodes} {S : Sheets} (hA : All (poolC P :: blkC g (bookL n lv ps) 180 :: cs) w) (hB : Bk P n lv ps N S) :
    Calls Tryz.prog 90 #[.pointer (some ⟨g, 0, none⟩)] w fun e w' => ∃ g2, e = .returned (.pointer (some ⟨g2, 0, none⟩)) ∧ All (poolC P :: blkC g (bookL n lv ps) 180 :: blkC g2 (bookL n lv ps) 180 :: cs) w' := by
  have hg : w.heap[g]? = some (.cells (bookL n lv ps).toArray 180 (0, 0)) := hA.blk (by simp)
  obtain ⟨C, hC⟩ : ∃ C, Hid (C = (bookL n lv ps).toArray) := ⟨_, hid rfl⟩
  have hps := hB.tr.len
  have hCs : C.size = 18 := by rw [hC.out]; simp [bookL, treeL, hps]
  have hC1 : C.all (·.oneCell') = true := by
    rw [hC.out]
    simp [bookL, treeL, Value.oneCell', ptr]
  have hi70 : (Tryz.prog.info? 180).map (·.size) = some C.size := by rw [hCs]; kernel_rfl
  have A2 := hA.addBlk (bookL n lv ps) 180
  rw [← hC.out] at hg A2
  obtain ⟨Z, hZ⟩ : ∃ Z : Array Value, Hid (Z = #[.int .i64 0, .int .i64 0, .pointer none, .pointer none, .pointer none, .pointer none, .pointer none, .pointer none, .pointer none, .pointer none, .pointer none, .pointer none, .pointer none, .pointer none, .pointer none, .pointer none, .pointer none, .pointer none]) := ⟨_, hid rfl⟩
  have hZs : Z.size = 18 := by rw [hZ.out]; rfl
  have hT : (w.alloc (.cells #[.int .i64 0, .int .i64 0, .pointer none, .pointer none, .pointer none, .pointer none, .pointer none, .pointer none, .pointer none, .pointer none, .pointer none, .pointer none, .pointer none, .pointer none, .pointer none, .pointer none, .pointer none, .pointer none] 180)).heap[w.heap.size]? = some (.cells Z 180 (0, 0)) := by rw [hZ.out]; exact heap_alloc_new w _
  have hrow := setRow_heap _ w.heap.size _ C 180 (0, 0) hT
  have AF : All (poolC P :: blkC g (bookL n lv ps) 180 :: blkC w.heap.size (bookL n lv ps) 180 :: cs) ((w.alloc (.cells #[.int .i64 0, .int .i64 0, .pointer none, .pointer none, .pointer none, .pointer none, .pointer none, .pointer none, .pointer none, .pointer none, .pointer none, .pointer none, .pointer none, .pointer none, .pointer none, .pointer none, .pointer none, .pointer none] 180)).setRow w.heap.size C) := by
    have h1 : All (blkC w.heap.size (bookL n lv ps) 180 :: poolC P :: blkC g (bookL n lv ps) 180 :: cs) ((w.alloc (.cells #[.int .i64 0, .int .i64 0, .pointer none, .pointer none, .pointer none, .pointer none, .pointer none, .pointer none, .pointer none, .pointer none, .pointer none, .pointer none, .pointer none, .pointer none, .pointer none, .pointer none, .pointer none, .pointer none] 180)).setRow w.heap.size C) := by
      refine hA.add ⟨rfl, rfl, rfl, by simp, fun k hk _ => (setRow_other _ w.heap.size k _ (by omega)).trans (Below.heap_alloc _ _ _ hk)⟩ (blkC_good _ _ _) ?_ (fun k hk => ?_)
      · show _ = some (Obj.cells (bookL n lv ps).toArray 180 (0, 0))
        rw [hrow, hC.out]
      · have : k = w.heap.size := by simpa [blkC] using hk
        subst this
        simp
    exact h1.perm ((List.Perm.swap _ _ _).trans (.cons _ (List.Perm.swap _ _ _)))
  have HH := hid (show _ ∧ _ ∧ _ ∧ _ ∧ _ from ⟨hg, hi70, hT, hZs.trans hCs.symm, hC1⟩)
  have AF := hid AF
  clear hA hB hg A2 hps hCs hC1 hi70 hZs hT hrow
  go_enter Tryz.func90, Tryz.ntmps90
  go_wp2_with (first | (refine wpList_load_row rfl 180 _ rfl g rfl 180 C (0, 0) _ HH.out.1 Tryz.underlying180 rfl HH.out.2.1 ?_) | (refine wpList_store_row rfl 180 _ _ rfl w.heap.size C rfl rfl 180 _ HH.out.2.2.1 HH.out.2.1 HH.out.2.2.2.1 HH.out.2.2.2.2 ?_))
  go_ret
  exact ⟨w.heap.size, rfl, AF.out⟩

set_option maxHeartbeats 4000000 in
theorem Get_all {w : World} {g n lv i : Nat} {ps : List Nat} {P : Pool} {cs : List Comp} {N : Nodes} {S : Sheets} (hA : All (poolC P :: blkC g (bookL n lv ps) 180 :: cs) w) (hB : Bk P n lv ps N S) (hi : i < n) :
    Calls Tryz.prog 129 #[.pointer (some ⟨g, 0, none⟩), .int .i64 (i : Int)] w fun e w' => ∃ a c, e = .returned (.tuple #[.slice a (S i).2.length c, .int .i64 ((S i).1 : Int), .int .i64 0]) ∧ All (rowC 5 1 (.slice a (S i).2.length c) (S i).2.length (cellsB (S i).2) :: poolC P :: blkC g (bookL n lv ps) 180 :: cs) w' := by
  have hg : w.heap[g]? = some (.cells (treeL [.int .i64 (n : Int)] lv ps).toArray 180 (0, 0)) := hA.blk (by simp [bookL])
  have V := hB.tr.view (fun x hx => hA.poolIn hx) hg
  have hn : w.cell? ⟨g, 0, none⟩ = some (.int .i64 (n : Int)) := by rw [cell_at hg]; rfl
  have h1 := hid (has_anyS6 (i : Int) hn)
  rw [show decide (0 ≤ (i : Int) ∧ (i : Int) < n) = true by simp; omega] at h1
  have hlv := hB.lv64
  have hnl := hB.nlv
  obtain ⟨q, q1, q2, q3, q4⟩ := V.node (lv + i) (by omega)
  have h4 := hid (leaf_any (g := g) (o := 1) (k := i) (p := q) (by omega) V.leaves q1)
  have hsh := hB.sh i (by omega)
  have e1 : (N (lv + i)).1 = (S i).1 := by rw [← hsh]
  have e2 : (N (lv + i)).2.2 = (S i).2 := by rw [← hsh]
  rw [e1] at q2
  rw [e2] at q4
  have hcap := (hB.cap i).2
  have C := hid (Clone_any q4.drew (by omega))
  obtain ⟨b1, b2, b3, hb⟩ : ∃ b1 b2 b3, (N (lv + i)).2.1 = .slice b1 b2 b3 := by
    obtain ⟨b1, b3, hb⟩ := q4.form
    exact ⟨_, _, _, hb⟩
  rw [hb] at q3 C
  have F : ∀ (w2 : World) (v : Value), w2.ownsRow w.drew.heap.size 5 1 v (S i).2.length (cellsB (S i).2) → Below w.drew.heap.size w.drew w2 → ∃ a c, v = .slice a (S i).2.length c ∧ w2.cell? ⟨q, (lv + i) % 8 * 2, none⟩ = some (.int .i64 ((S i).1 : Int)) ∧ Hid (All (rowC 5 1 (.slice a (S i).2.length c) (S i).2.length (cellsB (S i).2) :: poolC P :: blkC g (bookL n lv ps) 180 :: cs) w2) := by
    intro w2 v ho hb
    obtain ⟨a, c, rfl⟩ := owns_form ho
    refine ⟨a, c, rfl, cell_under hb (lt_of_cell q2) q2, hid (hA.drew.add (Fr.below hb) (rowC_good _ _ _ _ _) (owns_zero ho) (fun k hk => ?_))⟩
    have hk' : (Value.slice a (S i).2.length c).ownBlock = some k := by simpa [rowC] using hk
    exact World.ownsRow.lt ho k hk'
  have F := hid F
  have q2' : w.drew.cell? ⟨q, (lv + i) % 8 * 2, none⟩ = some (.int .i64 ((S i).1 : Int)) := q2
  have q3' : w.drew.cell? ⟨q, (lv + i) % 8 * 2 + 1, none⟩ = some (.slice b1 b2 b3) := q3
  generalize (lv + i) % 8 * 2 = r at *
  generalize (S i).1 = x at *
  generalize (S i).2 = bs at *
  clear hA hB hg V hn hlv hnl q1 q4 hsh e1 e2 hcap hb hi
  go_enter Tryz.func129, Tryz.ntmps129
  go_wp2_with (first | (go_at_call 157; refine h1.out.mono ?_; rintro e w' ⟨rfl, rfl⟩) | (go_at_call 161; refine h4.out.mono ?_; rintro e w' ⟨rfl, rfl⟩))
  go_region_law (go_simp; go_at_call 115; refine C.out.mono ?_; rintro e w2 ⟨v, rfl, ho, hb⟩; obtain ⟨a, c, rfl, k2, hF⟩ := F.out _ _ ho hb; clear ho hb)
  all_goals
    go_wp2
    go_ret3
    exact ⟨a, c, rfl, hF.out⟩

/-- Lists that are alike. -/
def intOf : Value → Int
  | .int _ i => i
  | _ => 0

end Go.Proofs.YtafickhhdemjnaaGreatDoor

namespace Go.Proofs.YtafickhhdemjnaaGreatDoor
open Go.RowKit
set_option linter.unusedVariables false

theorem flatX_get : ∀ {ys : List Xs} {i j : Nat} {y : Xs}, ys[i]? = some y → j < 3 → (flatX ys)[i * 3 + j]? = y.cells[j]?
  | [], i, j, y, h, _ => by simp at h
  | x :: ys, 0, j, y, h, hj => by
    simp at h
    subst h
    simp only [flatX, List.flatMap_cons, Nat.zero_mul, Nat.zero_add]
    rw [List.getElem?_append_left (by simpa [Xs.cells] using hj)]
  | x :: ys, i + 1, j, y, h, hj => by
    simp at h
    have := flatX_get (j := j) h hj
    simp only [flatX, List.flatMap_cons] at this ⊢
    rw [List.getElem?_append_right (by simp [Xs.cells]; omega), ← this]
    congr 1
    simp [Xs.cells]
    omega

/-- A row of sheets, read at a place. -/
theorem row_at {w : World} {ao : Option Addr} {c i : Nat} {ys : List Xs} {y : Xs} (h : w.ownsRow 0 78 3 (.slice ao ys.length c) ys.length (flatX ys)) (hy : ys[i]? = some y) :
    ∃ gr, ao = some ⟨gr, 0, none⟩ ∧ gr < w.heap.size ∧ w.cell? ⟨gr, i * 3, none⟩ = some (.int .i64 (y.num : Int)) ∧ w.cell? ⟨gr, i * 3 + 1, none⟩ = some (.int .i64 (y.at_ : Int)) ∧ w.cell? ⟨gr, i * 3 + 2, none⟩ = some (.slice y.ao y.len y.cap) := by
  have hi := (List.getElem?_eq_some_iff.1 hy).1
  have hc := fun g => World.ownsRow.cells h (g := g)
  rcases h.2 with ⟨e, e2⟩ | ⟨gr, cap, cur, e, _, hg, _⟩
  · omega
  · simp only [Value.slice.injEq] at e
    obtain ⟨rfl, _, rfl⟩ := e
    have key : ∀ j u, j < 3 → y.cells[j]? = some u → w.cell? ⟨gr, i * 3 + j, none⟩ = some u := fun j u hj hu => by
      have := hc gr rfl (i * 3 + j) u (by rw [flatX_get hy hj]; exact hu)
      simpa [Addr.add_lit] using this
    exact ⟨gr, rfl, (Array.getElem?_eq_some_iff.1 hg).1, key 0 _ (by omega) rfl, key 1 _ (by omega) rfl, key 2 _ (by omega) rfl⟩

/-- Sheets that may be laid in. -/
structure Fit (n : Nat) (ys : List Xs) : Prop where
  each : ∀ (i : Nat) (y : Xs), ys[i]? = some y → y.num < n ∧ 1 ≤ y.at_ ∧ y.at_ ≤ 1099511627776 ∧ y.len ≤ 2304
  rise : ∀ (i : Nat) (y z : Xs), ys[i]? = some y → ys[i + 1]? = some z → y.num < z.num

set_option maxRecDepth 100000 in
set_option maxHeartbeats 4000000 in
theorem check_ok {w : World} {g n : Nat} {ao : Option Addr} {c : Nat} {ys : List Xs} (hn : w.cell? ⟨g, 0, none⟩ = some (.int .i64 (n : Int))) (hrow : w.ownsRow 0 78 3 (.slice ao ys.length c) ys.length (flatX ys)) (hf : Fit n ys) (hlen : ys.length ≤ 1000) :
    Calls Tryz.prog 127 #[.pointer (some ⟨g, 0, none⟩), .slice ao ys.length c] w fun e w' => e = .returned (.int .i64 0) ∧ Below w.heap.size w w' := by
  have HR := hid hrow
  have HF := hid hf
  have HL := hid hlen
  obtain ⟨yl, hyl⟩ : ∃ yl, Hid (yl = ys.length) := ⟨_, hid rfl⟩
  rw [← hyl.out]
  have HB : Hid (Below w.heap.size w w) := hid (Below.refl _ _)
  have hgw := lt_of_cell hn
  have HN := hid hn
  clear hrow hf hlen hn
  go_enter Tryz.func127, Tryz.ntmps127
  go_wp2
  go_loopw [5, 7, 10, 11, 12, 13, 14, 15, 16, 17, 18, 19, 20, 21, 22, 23, 24, 25, 26, 27, 28, 29, 30, 31, 32, 33, 34, 35, 36, 37] (fun p5 p7 p10 p11 p12 p13 p14 p15 p16 p17 p18 p19 p20 p21 p22 p23 p24 p25 p26 p27 p28 p29 p30 p31 p32 p33 p34 p35 p36 p37 wr => ∃ (i : Nat) (L : Int), p10 = .int .i64 i ∧ p5 = .int .i64 L ∧ i ≤ yl ∧ Hid (∀ y, ys[i]? = some y → L < y.num) ∧ Hid (Below w.heap.size w wr))
    (fun p5 p7 p10 p11 p12 p13 p14 p15 p16 p17 p18 p19 p20 p21 p22 p23 p24 p25 p26 p27 p28 p29 p30 p31 p32 p33 p34 p35 p36 p37 _ => match p10 with | .int _ i => (yl - i).toNat | _ => 0)
  case atStart => exact ⟨0, -1, rfl, rfl, by omega, hid (fun y _ => by omega), HB⟩
  case round =>
    obtain ⟨i, L, rfl, rfl, hi, hL, hbw⟩ := hrel
    by_cases hc : (i : Int) < (yl : Int)
    · have hii : i < ys.length := by rw [← hyl.out]; omega
      obtain ⟨y, hy⟩ : ∃ y, ys[i]? = some y := ⟨_, List.getElem?_eq_getElem hii⟩
      obtain ⟨gr, rfl, hgr, c0, c1, c2⟩ := row_at HR.out hy
      obtain ⟨f1, f2, f3, f4⟩ := HF.out.each i y hy
      have c0 := cell_under hbw.out hgr c0
      have c1 := cell_under hbw.out hgr c1
      have c2 := cell_under hbw.out hgr c2
      have hgr2 : gr < wr.heap.size := Nat.lt_of_lt_of_le hgr hbw.out.size
      have H1 := hid (has_anyS6 (w := wr.alloc (.cells #[.int .i64 (y.num : Int), .int .i64 (y.at_ : Int), .slice y.ao y.len y.cap] 78)) (y.num : Int) (cell_under (ba wr _) (Nat.lt_of_lt_of_le hgw hbw.out.size) (cell_under hbw.out hgw HN.out)))
      rw [show decide (0 ≤ (y.num : Int) ∧ (y.num : Int) < n) = true by simp; omega] at H1
      have H2 := hid (isStamp_any (w := wr.alloc (.cells #[.int .i64 (y.num : Int), .int .i64 (y.at_ : Int), .slice y.ao y.len y.cap] 78)) (y.at_ : Int))
      rw [show decide (1 ≤ (y.at_ : Int) ∧ (y.at_ : Int) ≤ 1099511627776) = true by simp; omega] at H2
      have d1 : ¬ (y.num : Int) ≤ L := by have := hL.out y hy; omega
      have d2 : ¬ (2304 : Int) < (y.len : Int) := by omega
      have wi : IntKind.i64.wrap ((i : Int) + 1) = ((i + 1 : Nat) : Int) := by have := HL.out; rw [IntKind.wrap_i64]; omega
      have NX : Hid (∀ z, ys[i + 1]? = some z → (y.num : Int) < z.num) := hid (fun z hz => by have := HF.out.rise i y z hy hz; omega)
      have NB : Hid (Below w.heap.size w (wr.alloc (.cells #[.int .i64 (y.num : Int), .int .i64 (y.at_ : Int), .slice y.ao y.len y.cap] 78))) := hid (hbw.out.trans ((ba wr _).mono hbw.out.size))
      clear hL hbw HB hgr f1 f2 f3 f4 hy hii
      go_wp2_with (first | (go_at_call 157; refine H1.out.mono ?_; rintro e w' ⟨rfl, rfl⟩) | (go_at_call 158; refine H2.out.mono ?_; rintro e w' ⟨rfl, rfl⟩))
      go_roundw
      case rel => exact ⟨i + 1, y.num, rfl, rfl, by omega, NX, NB⟩
      case measure => simp only; omega
    · have hbw := hbw
      clear hL HB
      go_wp2
      go_ret
      exact ⟨rfl, hbw.out⟩

/-- Sheets laid in. -/
def applyS (S : Sheets) (ys : List Xs) : Sheets := ys.foldl (fun S y => setS S y.num (y.at_, y.bs)) S

set_option maxRecDepth 100000 in
set_option maxHeartbeats 4000000 in
theorem Apply_ok {w : World} {g n lv : Nat} {ps : List Nat} {N : Nodes} {P : Pool} {cs : List Comp} {S : Sheets} {ao : Option Addr} {c : Nat} {ys : List Xs} (hA : All (poolC P :: blkC g (bookL n lv ps) 180 :: cs) w) (hB : Bk P n lv ps N S) (hrow : rowC 78 3 (.slice ao ys.length c) ys.length (flatX ys) ∈ cs) (hd : ∀ y ∈ ys, datC y ∈ cs) (hf : Fit n ys) (hlen : ys.length ≤ 1000) :
    Calls Tryz.prog 87 #[.pointer (some ⟨g, 0, none⟩), .slice ao ys.length c] w fun e w' => e = .returned (.int .i64 0) ∧ Has P g n cs (applyS S ys) w' := by
  have hg : w.heap[g]? = some (.cells (bookL n lv ps).toArray 180 (0, 0)) := hA.blk (by simp)
  have hr0 : w.ownsRow 0 78 3 (.slice ao ys.length c) ys.length (flatX ys) := (hA.mem (c := rowC 78 3 (.slice ao ys.length c) ys.length (flatX ys)) (by simp [hrow])).2.1
  have CK := hid (check_ok (g := g) (n := n) (by rw [cell_at hg]; rfl) hr0 hf hlen)
  have H0 := hid (fun w' (hb : Below w.heap.size w w') => (⟨P, lv, ps, N, hA.later hb, hB, fun x hx => hx⟩ : Has P g n cs (applyS S (ys.take 0)) w'))
  have HF := hid hf
  have HR := hid hrow
  have HD := hid hd
  have HL := hid hlen
  obtain ⟨yl, hyl⟩ : ∃ yl, Hid (yl = ys.length) := ⟨_, hid rfl⟩
  rw [← hyl.out] at CK ⊢
  clear hA hB hrow hd hf hg hr0 hlen
  go_enter Tryz.func87, Tryz.ntmps87
  go_wp2_with (go_at_call 127; refine CK.out.mono ?_; rintro e w1 ⟨rfl, hb1⟩)
  have H0 := hid (H0.out w1 hb1)
  clear CK hb1
  go_loopw [7, 16, 17, 18, 19, 20, 21, 22, 23, 24, 25, 26, 27, 28] (fun p7 p16 p17 p18 p19 p20 p21 p22 p23 p24 p25 p26 p27 p28 wr => ∃ i : Nat, p16 = .int .i64 i ∧ i ≤ yl ∧ Hid (Has P g n cs (applyS S (ys.take i)) wr))
    (fun p7 p16 p17 p18 p19 p20 p21 p22 p23 p24 p25 p26 p27 p28 _ => match p16 with | .int _ i => (yl - i).toNat | _ => 0)
  case atStart => exact ⟨0, rfl, by omega, H0⟩
  case round =>
    obtain ⟨i, rfl, hi, hH⟩ := hrel
    by_cases hc : (i : Int) < (yl : Int)
    · have hii : i < ys.length := by rw [← hyl.out]; omega
      obtain ⟨y, hy⟩ : ∃ y, ys[i]? = some y := ⟨_, List.getElem?_eq_getElem hii⟩
      obtain ⟨Q, lv1, ps1, N1, A1, B1, S1⟩ := hH.out
      have hr1 : wr.ownsRow 0 78 3 (.slice ao ys.length c) ys.length (flatX ys) := (A1.mem (c := rowC 78 3 (.slice ao ys.length c) ys.length (flatX ys)) (by simp [HR.out])).2.1
      obtain ⟨gr, rfl, hgr, c0, c1, c2⟩ := row_at hr1 hy
      obtain ⟨f1, f2, f3, f4⟩ := HF.out.each i y hy
      have hdat : wr.ownsRow 0 5 1 y.v y.bs.length (cellsB y.bs) := (A1.mem (c := datC y) (by simp [HD.out y (List.mem_of_getElem? hy)])).2.1
      have hrd := ReadsS6.of_owns hdat
      have hlb : y.len = y.bs.length := by
        obtain ⟨a', c', e'⟩ := owns_form hdat
        simp only [Xs.v, Value.slice.injEq] at e'
        exact e'.2.1
      have hlv := B1.lv64
      have hnl := B1.nlv
      have PP := hid ((set_all (num := y.num) (a := y.at_) (A1.alloc (.cells #[.int .i64 (y.num : Int), .int .i64 (y.at_ : Int), .slice y.ao y.len y.cap] 78)) B1.tr hlv (by omega) B1.ord (hrd.below (ba wr _)) (by omega)).mono (fun e w' (hq : _ ∧ _) => (⟨hq.1, by
        obtain ⟨Q2, lv2, ps2, N2, A2, B2, S2⟩ := hq.2.has B1 f1 f3 (by omega)
        have e1 : setS (applyS S (ys.take i)) y.num (y.at_, y.bs) = applyS S (ys.take (i + 1)) := by
          rw [List.take_add_one, hy]
          simp [applyS]
        rw [e1] at B2
        exact hid ⟨Q2, lv2, ps2, N2, A2, B2, fun x hx => S2 x (S1 x hx)⟩⟩ : (∃ v, e = .returned v) ∧ Hid (Has P g n cs (applyS S (ys.take (i + 1))) w'))))
      have wi : IntKind.i64.wrap ((i : Int) + 1) = ((i + 1 : Nat) : Int) := by have := HL.out; rw [IntKind.wrap_i64]; omega
      simp only [Xs.v] at PP
      clear A1 B1 hH H0 S1 hr1 f1 f2 f3 f4 hdat hrd hlb hlv hnl hy hii
      go_wp2_with (go_at_call 128; refine PP.out.mono ?_; rintro e w4 ⟨⟨v4, rfl⟩, h4⟩)
      go_roundw
      case rel => exact ⟨i + 1, rfl, by omega, h4⟩
      case measure => simp only; omega
    · have ei : Hid (i = ys.length) := hid (by have := hyl.out; omega)
      have FIN : Hid (Has P g n cs (applyS S ys) wr) := hid (by have := hH.out; rw [ei.out, List.take_length] at this; exact this)
      clear hH H0 ei
      go_wp2
      go_ret
      exact ⟨rfl, FIN.out⟩

end Go.Proofs.YtafickhhdemjnaaGreatDoor

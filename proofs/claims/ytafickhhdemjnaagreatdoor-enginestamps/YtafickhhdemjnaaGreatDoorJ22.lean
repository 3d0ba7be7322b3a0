import Derived.Test.YtafickhhdemjnaaGreatDoorJ21
import Derived.Deep.QuietTactic
import Derived.BigQuiet
import Derived.Test.YtafickhhdemjnaaGreatDoorJ13
import Derived.Test.YtafickhhdemjnaaGreatDoorJ17
import Derived.Test.YtafickhhdemjnaaGreatDoorJ4
namespace Go.Proofs.YtafickhhdemjnaaGreatDoor
open Go.RowKit
set_option linter.unusedVariables false

theorem sel_cons (N : Nodes) (lv a k : Nat) (l : List Nat) : sel N lv a (k :: l) = (if lv ≤ k ∧ a < (N k).1 then [(k - lv, (N k).1, (N k).2.2)] else []) ++ sel N lv a l := by
  unfold sel
  by_cases h : lv ≤ k ∧ a < (N k).1
  · simp [h]
  · simp [h]

/-- Where something is newer, a sheet is found. -/
theorem vis_found {N : Nodes} {lv a : Nat} (hO : ∀ j, 1 ≤ j → j < lv → Ord N j) : ∀ e k, Ht lv e k → 1 ≤ k → a < (N k).1 → 1 ≤ (sel N lv a (vis N a e k)).length
  | 0, k, hh, hk, ha => by
    have := hh.leaf
    simp [vis, sel, this.1, ha]
  | e + 1, k, hh, hk, ha => by
    obtain ⟨h1, h2, h3⟩ := hh.inner
    have ho := hO k hk h1
    unfold Ord at ho
    have hc : ¬ (N k).1 ≤ a := by omega
    rw [vis, if_neg hc, sel_cons, if_neg (by omega), List.nil_append, sel_append, List.length_append]
    by_cases h4 : a < (N (2 * k)).1
    · have := vis_found (a := a) hO e (2 * k) h2 (by omega) h4
      omega
    · have := vis_found (a := a) hO e (2 * k + 1) h3 (by omega) (by omega)
      omega

/-- No more nodes than so many for each sheet that is found. -/
theorem vis_bound {N : Nodes} {lv a : Nat} (hO : ∀ j, 1 ≤ j → j < lv → Ord N j) : ∀ e k, Ht lv e k → 1 ≤ k → (vis N a e k).length ≤ 1 + 2 * e * (sel N lv a (vis N a e k)).length
  | 0, k, hh, hk => by simp [vis]
  | e + 1, k, hh, hk => by
    obtain ⟨h1, h2, h3⟩ := hh.inner
    by_cases hc : (N k).1 ≤ a
    · rw [vis, if_pos hc]; simp
    · have hf := vis_found (a := a) hO (e + 1) k hh hk (by omega)
      have b1 := vis_bound (a := a) hO e (2 * k) h2 (by omega)
      have b2 := vis_bound (a := a) hO e (2 * k + 1) h3 (by omega)
      rw [vis, if_neg hc, sel_cons, if_neg (by omega), List.nil_append, sel_append, List.length_append] at hf ⊢
      rw [List.length_cons, List.length_append]
      generalize (sel N lv a (vis N a e (2 * k))).length = f1 at *
      generalize (sel N lv a (vis N a e (2 * k + 1))).length = f2 at *
      have e1 : 2 * e * (f1 + f2) = 2 * e * f1 + 2 * e * f2 := Nat.mul_add _ _ _
      have e2 : 2 * (e + 1) * (f1 + f2) = 2 * e * (f1 + f2) + 2 * (f1 + f2) := by rw [Nat.mul_add 2 e 1, Nat.add_mul]
      omega

theorem vis_pos (N : Nodes) (a e k : Nat) : 1 ≤ (vis N a e k).length := by
  cases e with
  | zero => simp [vis]
  | succ e => unfold vis; split <;> simp
theorem vis_one {N : Nodes} {a e k : Nat} (h : (N k).1 ≤ a) : (vis N a e k).length = 1 := by
  cases e with
  | zero => simp [vis]
  | succ e => rw [vis, if_pos h]; rfl
theorem vis_three {N : Nodes} {a e k : Nat} (h : ¬ (N k).1 ≤ a) : 3 ≤ (vis N a (e + 1) k).length := by
  rw [vis, if_neg h]
  have h1 := vis_pos N a e (2 * k)
  have h2 := vis_pos N a e (2 * k + 1)
  simp only [List.length_cons, List.length_append]
  omega

/-- What the law asks of a book. -/
theorem looks_ok {P : Pool} {n h : Nat} {ps : List Nat} {N : Nodes} {S : Sheets} (hB : Bk P n (2 ^ h) ps N S) (hh : h ≤ 6) (at_ : Int) :
    let k := (sel N (2 ^ h) at_.toNat (vis N at_.toNat h 1)).length
    let lk := looksN N at_ h
    k ≤ 127 ∧ lk ≤ 127 ∧ (k = 0 → lk = 1) ∧ (k ≠ 0 → lk ≤ 1 + 12 * k ∧ 1 ≤ lk ∧ (n > 1 ∨ lk = 1) ∧ (n = 1 ∨ lk ≥ 3)) := by
  intro k lk
  have hO := hB.ord
  have b := vis_bound (a := at_.toNat) hO h 1 (Ht.root h) (by omega)
  have l127 := vis_127 N at_.toNat hh 1
  have n1 := hB.n1
  have nlv := hB.nlv
  have lvn := hB.lvn
  have k64 : k ≤ 127 := Nat.le_trans (sel_len _ _ _ _) l127
  refine ⟨k64, l127, fun hk => ?_, fun hk => ?_⟩
  · by_cases hc : (N 1).1 ≤ at_.toNat
    · exact vis_one hc
    · have := vis_found hO h 1 (Ht.root h) (by omega) (by omega : at_.toNat < (N 1).1)
      have hk' : (sel N (2 ^ h) at_.toNat (vis N at_.toNat h 1)).length = 0 := hk
      omega
  · have hc : ¬ (N 1).1 ≤ at_.toNat := by
      intro hc
      apply hk
      show (sel N (2 ^ h) at_.toNat (vis N at_.toNat h 1)).length = 0
      have h1 : vis N at_.toNat h 1 = [1] := by
        cases h with
        | zero => rfl
        | succ e => rw [vis, if_pos hc]
      rw [h1, sel_cons, if_neg (by omega)]
      rfl
    have hb : lk ≤ 1 + 2 * h * k := b
    have h12 : 2 * h * k ≤ 12 * k := Nat.mul_le_mul_right k (by omega)
    refine ⟨by omega, vis_pos _ _ _ _, ?_, ?_⟩
    · by_cases hn : n > 1
      · exact .inl hn
      · right
        have : h = 0 := by
          cases h with
          | zero => rfl
          | succ e =>
            have : 2 ^ (e + 1) = 2 * 2 ^ e := by rw [Nat.pow_succ]; omega
            have hp : 0 < 2 ^ e := Nat.pow_pos (by omega)
            omega
        subst this
        rfl
    · by_cases hn : n = 1
      · exact .inl hn
      · right
        cases h with
        | zero => simp at nlv; omega
        | succ e => exact vis_three hc

end Go.Proofs.YtafickhhdemjnaaGreatDoor

namespace Go.Proofs.YtafickhhdemjnaaGreatDoor
open Go.RowKit
set_option linter.unusedVariables false

/-- The sheets that are newer, by rising numbers. -/
def newS (S : Sheets) (a : Nat) (l : List Nat) : List (Nat × Nat × List UInt8) := l.filterMap fun i => if a < (S i).1 then some (i, (S i).1, (S i).2) else none
theorem newS_append (S : Sheets) (a : Nat) (l m : List Nat) : newS S a (l ++ m) = newS S a l ++ newS S a m := by simp [newS]
theorem newS_nil {S : Sheets} {a : Nat} {l : List Nat} (h : ∀ i ∈ l, (S i).1 ≤ a) : newS S a l = [] := by
  unfold newS
  refine List.filterMap_eq_nil_iff.2 (fun i hi => ?_)
  have := h i hi
  rw [if_neg (by omega)]

/-- What is found is what is newer. -/
theorem Bk.found {P : Pool} {n h a : Nat} {ps : List Nat} {N : Nodes} {S : Sheets} (hB : Bk P n (2 ^ h) ps N S) : ∀ e d q, d + e = h → q < 2 ^ d → sel N (2 ^ h) a (vis N a e (2 ^ d + q)) = newS S a (List.range' (q * 2 ^ e) (2 ^ e))
  | 0, d, q, hd, hq => by
    have hd : d = h := by omega
    subst hd
    have hsh := hB.sh q hq
    have e1 : (N (2 ^ d + q)).1 = (S q).1 := by rw [← hsh]
    have e2 : (N (2 ^ d + q)).2.2 = (S q).2 := by rw [← hsh]
    simp only [vis, sel, newS, Nat.pow_zero, Nat.mul_one, List.range'_one, List.filterMap_cons, List.filterMap_nil, e1, e2, Nat.add_sub_cancel_left, Nat.le_add_right, true_and]
  | e + 1, d, q, hd, hq => by
    have h2 : 2 ^ d < 2 ^ h := Nat.pow_lt_pow_right (by omega) (by omega)
    have h3 : 2 ^ (d + 1) ≤ 2 ^ h := Nat.pow_le_pow_right (by omega) (by omega)
    have h4 : 2 ^ (d + 1) = 2 * 2 ^ d := by rw [Nat.pow_succ]; omega
    have hp : 0 < 2 ^ d := Nat.pow_pos (by omega)
    have hat := hB.at (e + 1) d q hd hq
    by_cases hc : (N (2 ^ d + q)).1 ≤ a
    · rw [vis, if_pos hc, newS_nil (fun i hi => ?_), sel_cons, if_neg (by omega)]
      · rfl
      · obtain ⟨j, hj, rfl⟩ := List.mem_range'.1 hi
        have := mx_le S (q * 2 ^ (e + 1)) hj
        rw [Nat.one_mul]
        omega
    · have c1 := Bk.found (a := a) hB e (d + 1) (2 * q) (by omega) (by omega)
      have c2 := Bk.found (a := a) hB e (d + 1) (2 * q + 1) (by omega) (by omega)
      rw [h4] at c1 c2
      have e1 : 2 * (2 ^ d + q) = 2 * 2 ^ d + 2 * q := by omega
      have e2 : 2 * (2 ^ d + q) + 1 = 2 * 2 ^ d + (2 * q + 1) := by omega
      have hlt : 2 ^ d + q < 2 ^ h := by omega
      rw [vis, if_neg hc, sel_cons, if_neg (by omega), List.nil_append, sel_append, e2, e1, c1, c2, ← newS_append]
      have h5 : 2 ^ (e + 1) = 2 ^ e + 2 ^ e := by rw [Nat.pow_succ]; omega
      have h6 : q * 2 ^ (e + 1) = 2 * q * 2 ^ e := by rw [Nat.pow_succ, Nat.mul_comm (2 ^ e) 2, ← Nat.mul_assoc, Nat.mul_comm q 2]
      have h7 : (2 * q + 1) * 2 ^ e = 2 * q * 2 ^ e + 2 ^ e := by rw [Nat.add_mul, Nat.one_mul]
      rw [h6, h5, h7]
      congr 1
      have := List.range'_append (s := 2 * q * 2 ^ e) (m := 2 ^ e) (n := 2 ^ e) (step := 1)
      rw [Nat.one_mul] at this
      exact this

theorem Bk.foundAll {P : Pool} {n h a : Nat} {ps : List Nat} {N : Nodes} {S : Sheets} (hB : Bk P n (2 ^ h) ps N S) : sel N (2 ^ h) a (vis N a h 1) = newS S a (List.range (2 ^ h)) := by
  have := hB.found (a := a) h 0 0 (by omega) (by simp)
  simpa [List.range_eq_range'] using this

set_option maxRecDepth 100000 in
set_option maxHeartbeats 4000000 in
theorem Snap_all {w : World} {g n lv : Nat} {ps : List Nat} {P : Pool} {cs : List Comp} {N : Nodes} {S : Sheets} (hA : All (poolC P :: blkC g (bookL n lv ps) 180 :: cs) w) (hB : Bk P n lv ps N S) :
    Calls Tryz.prog 90 #[.pointer (some ⟨g, 0, none⟩)] w fun e w' => ∃ g2, e = .returned (.pointer (some ⟨g2, 0, none⟩)) ∧ All (poolC P :: blkC g (bookL n lv ps) 180 :: blkC g2 (bookL n lv ps) 180 :: cs) w' := by
  have hg : w.heap[g]? = some (.cells (bookL n lv ps).toArray 180 (0, 0)) := hA.blk (by simp)
  obtain ⟨C, hC⟩ : ∃ C, Hid (C = (bookL n lv ps).toArray) := ⟨_, hid rfl⟩
  have hps := hB.tr.len
  have hCs : C.size = 18 := by rw [hC.out]; simp [bookL, treeL, hps]
  have hC1 : C.all (·.oneCell') = true := by
    rw [hC.out]
    simp [bookL, treeL, Value.oneCell', ptr]
  have hi70 : (Tryz.prog.info? 180).map (·.size) = some C.size := by rw [hCs]; kernel_rfl
  have A2 := hA.addBlk (bookL n lv ps) 180
  rw [← hC.out] at hg A2
  obtain ⟨Z, hZ⟩ : ∃ Z : Array Value, Hid (Z = #[.int .i64 0, .int .i64 0, .pointer none, .pointer none, .pointer none, .pointer none, .pointer none, .pointer none, .pointer none, .pointer none, .pointer none, .pointer none, .pointer none, .pointer none, .pointer none, .pointer none, .pointer none, .pointer none]) := ⟨_, hid rfl⟩
  have hZs : Z.size = 18 := by rw [hZ.out]; rfl
  have hT : (w.alloc (.cells #[.int .i64 0, .int .i64 0, .pointer none, .pointer none, .pointer none, .pointer none, .pointer none, .pointer none, .pointer none, .pointer none, .pointer none, .pointer none, .pointer none, .pointer none, .pointer none, .pointer none, .pointer none, .pointer none] 180)).heap[w.heap.size]? = some (.cells Z 180 (0, 0)) := by rw [hZ.out]; exact heap_alloc_new w _
  have hrow := setRow_heap _ w.heap.size _ C 180 (0, 0) hT
  have AF : All (poolC P :: blkC g (bookL n lv ps) 180 :: blkC w.heap.size (bookL n lv ps) 180 :: cs) ((w.alloc (.cells #[.int .i64 0, .int .i64 0, .pointer none, .pointer none, .pointer none, .pointer none, .pointer none, .pointer none, .pointer none, .pointer none, .pointer none, .pointer none, .pointer none, .pointer none, .pointer none, .pointer none, .pointer none, .pointer none] 180)).setRow w.heap.size C) := by
    have h1 : All (blkC w.heap.size (bookL n lv ps) 180 :: poolC P :: blkC g (bookL n lv ps) 180 :: cs) ((w.alloc (.cells #[.int .i64 0, .int .i64 0, .pointer none, .pointer none, .pointer none, .pointer none, .pointer none, .pointer none, .pointer none, .pointer none, .pointer none, .pointer none, .pointer none, .pointer none, .pointer none, .pointer none, .pointer none, .pointer none] 180)).setRow w.heap.size C) := by
      refine hA.add ⟨rfl, rfl, rfl, by simp, fun k hk _ => (setRow_other _ w.heap.size k _ (by omega)).trans (Below.heap_alloc _ _ _ hk)⟩ (blkC_good _ _ _) ?_ (fun k hk => ?_)
      · show _ = some (Obj.cells (bookL n lv ps).toArray 180 (0, 0))
        rw [hrow, hC.out]
      · have : k = w.heap.size := by simpa [blkC] using hk
        subst this
        simp
    exact h1.perm ((List.Perm.swap _ _ _).trans (.cons _ (List.Perm.swap _ _ _)))
  have HH := hid (show _ ∧ _ ∧ _ ∧ _ ∧ _ from ⟨hg, hi70, hT, hZs.trans hCs.symm, hC1⟩)
  have AF := hid AF
  clear hA hB hg A2 hps hCs hC1 hi70 hZs hT hrow
  go_enter Tryz.func90, Tryz.ntmps90
  go_wp2_with (first | (refine wpList_load_row rfl 180 _ rfl g rfl 180 C (0, 0) _ HH.out.1 Tryz.underlying180 rfl HH.out.2.1 ?_) | (refine wpList_store_row rfl 180 _ _ rfl w.heap.size C rfl rfl 180 _ HH.out.2.2.1 HH.out.2.1 HH.out.2.2.2.1 HH.out.2.2.2.2 ?_))
  go_ret
  exact ⟨w.heap.size, rfl, AF.out⟩

set_option maxHeartbeats 4000000 in
theorem Get_all {w : World} {g n lv i : Nat} {ps : List Nat} {P : Pool} {cs : List Comp} {N : Nodes} {S : Sheets} (hA : All (poolC P :: blkC g (bookL n lv ps) 180 :: cs) w) (hB : Bk P n lv ps N S) (hi : i < n) :
    Calls Tryz.prog 129 #[.pointer (some ⟨g, 0, none⟩), .int .i64 (i : Int)] w fun e w' => ∃ a c, e = .returned (.tuple #[.slice a (S i).2.length c, .int .i64 ((S i).1 : Int), .int .i64 0]) ∧ All (rowC 5 1 (.slice a (S i).2.length c) (S i).2.length (cellsB (S i).2) :: poolC P :: blkC g (bookL n lv ps) 180 :: cs) w' := by
  have hg : w.heap[g]? = some (.cells (treeL [.int .i64 (n : Int)] lv ps).toArray 180 (0, 0)) := hA.blk (by simp [bookL])
  have V := hB.tr.view (fun x hx => hA.poolIn hx) hg
  have hn : w.cell? ⟨g, 0, none⟩ = some (.int .i64 (n : Int)) := by rw [cell_at hg]; rfl
  have h1 := hid (has_anyS6 (i : Int) hn)
  rw [show decide (0 ≤ (i : Int) ∧ (i : Int) < n) = true by simp; omega] at h1
  have hlv := hB.lv64
  have hnl := hB.nlv
  obtain ⟨q, q1, q2, q3, q4⟩ := V.node (lv + i) (by omega)
  have h4 := hid (leaf_any (g := g) (o := 1) (k := i) (p := q) (by omega) V.leaves q1)
  have hsh := hB.sh i (by omega)
  have e1 : (N (lv + i)).1 = (S i).1 := by rw [← hsh]
  have e2 : (N (lv + i)).2.2 = (S i).2 := by rw [← hsh]
  rw [e1] at q2
  rw [e2] at q4
  have hcap := (hB.cap i).2
  have C := hid (Clone_any q4.drew (by omega))
  obtain ⟨b1, b2, b3, hb⟩ : ∃ b1 b2 b3, (N (lv + i)).2.1 = .slice b1 b2 b3 := by
    obtain ⟨b1, b3, hb⟩ := q4.form
    exact ⟨_, _, _, hb⟩
  rw [hb] at q3 C
  have F : ∀ (w2 : World) (v : Value), w2.ownsRow w.drew.heap.size 5 1 v (S i).2.length (cellsB (S i).2) → Below w.drew.heap.size w.drew w2 → ∃ a c, v = .slice a (S i).2.length c ∧ w2.cell? ⟨q, (lv + i) % 8 * 2, none⟩ = some (.int .i64 ((S i).1 : Int)) ∧ Hid (All (rowC 5 1 (.slice a (S i).2.length c) (S i).2.length (cellsB (S i).2) :: poolC P :: blkC g (bookL n lv ps) 180 :: cs) w2) := by
    intro w2 v ho hb
    obtain ⟨a, c, rfl⟩ := owns_form ho
    refine ⟨a, c, rfl, cell_under hb (lt_of_cell q2) q2, hid (hA.drew.add (Fr.below hb) (rowC_good _ _ _ _ _) (owns_zero ho) (fun k hk => ?_))⟩
    have hk' : (Value.slice a (S i).2.length c).ownBlock = some k := by simpa [rowC] using hk
    exact World.ownsRow.lt ho k hk'
  have F := hid F
  have q2' : w.drew.cell? ⟨q, (lv + i) % 8 * 2, none⟩ = some (.int .i64 ((S i).1 : Int)) := q2
  have q3' : w.drew.cell? ⟨q, (lv + i) % 8 * 2 + 1, none⟩ = some (.slice b1 b2 b3) := q3
  generalize (lv + i) % 8 * 2 = r at *
  generalize (S i).1 = x at *
  generalize (S i).2 = bs at *
  clear hA hB hg V hn hlv hnl q1 q4 hsh e1 e2 hcap hb hi
  go_enter Tryz.func129, Tryz.ntmps129
  go_wp2_with (first | (go_at_call 157; refine h1.out.mono ?_; rintro e w' ⟨rfl, rfl⟩) | (go_at_call 161; refine h4.out.mono ?_; rintro e w' ⟨rfl, rfl⟩))
  go_region_law (go_simp; go_at_call 115; refine C.out.mono ?_; rintro e w2 ⟨v, rfl, ho, hb⟩; obtain ⟨a, c, rfl, k2, hF⟩ := F.out _ _ ho hb; clear ho hb)
  all_goals
    go_wp2
    go_ret3
    exact ⟨a, c, rfl, hF.out⟩

/-- Lists that are alike. -/
def intOf : Value → Int
  | .int _ i => i
  | _ => 0

end Go.Proofs.YtafickhhdemjnaaGreatDoor

namespace Go.Proofs.YtafickhhdemjnaaGreatDoor
open Go.RowKit
set_option linter.unusedVariables false

theorem flatX_get : ∀ {ys : List Xs} {i j : Nat} {y : Xs}, ys[i]? = some y → j < 3 → (flatX ys)[i * 3 + j]? = y.cells[j]?
  | [], i, j, y, h, _ => by simp at h
  | x :: ys, 0, j, y, h, hj => by
    simp at h
    subst h
    simp only [flatX, List.flatMap_cons, Nat.zero_mul, Nat.zero_add]
    rw [List.getElem?_append_left (by simpa [Xs.cells] using hj)]
  | x :: ys, i + 1, j, y, h, hj => by
    simp at h
    have := flatX_get (j := j) h hj
    simp only [flatX, List.flatMap_cons] at this ⊢
    rw [List.getElem?_append_right (by simp [Xs.cells]; omega), ← this]
    congr 1
    simp [Xs.cells]
    omega

/-- A row of sheets, read at a place. -/
theorem row_at {w : World} {ao : Option Addr} {c i : Nat} {ys : List Xs} {y : Xs} (h : w.ownsRow 0 78 3 (.slice ao ys.length c) ys.length (flatX ys)) (hy : ys[i]? = some y) :
    ∃ gr, ao = some ⟨gr, 0, none⟩ ∧ gr < w.heap.size ∧ w.cell? ⟨gr, i * 3, none⟩ = some (.int .i64 (y.num : Int)) ∧ w.cell? ⟨gr, i * 3 + 1, none⟩ = some (.int .i64 (y.at_ : Int)) ∧ w.cell? ⟨gr, i * 3 + 2, none⟩ = some (.slice y.ao y.len y.cap) := by
  have hi := (List.getElem?_eq_some_iff.1 hy).1
  have hc := fun g => World.ownsRow.cells h (g := g)
  rcases h.2 with ⟨e, e2⟩ | ⟨gr, cap, cur, e, _, hg, _⟩
  · omega
  · simp only [Value.slice.injEq] at e
    obtain ⟨rfl, _, rfl⟩ := e
    have key : ∀ j u, j < 3 → y.cells[j]? = some u → w.cell? ⟨gr, i * 3 + j, none⟩ = some u := fun j u hj hu => by
      have := hc gr rfl (i * 3 + j) u (by rw [flatX_get hy hj]; exact hu)
      simpa [Addr.add_lit] using this
    exact ⟨gr, rfl, (Array.getElem?_eq_some_iff.1 hg).1, key 0 _ (by omega) rfl, key 1 _ (by omega) rfl, key 2 _ (by omega) rfl⟩

/-- Sheets that may be laid in. -/
structure Fit (n : Nat) (ys : List Xs) : Prop where
  each : ∀ (i : Nat) (y : Xs), ys[i]? = some y → y.num < n ∧ 1 ≤ y.at_ ∧ y.at_ ≤ 1099511627776 ∧ y.len ≤ 2304
  rise : ∀ (i : Nat) (y z : Xs), ys[i]? = some y → ys[i + 1]? = some z → y.num < z.num

set_option maxRecDepth 100000 in
set_option maxHeartbeats 4000000 in
theorem check_ok {w : World} {g n : Nat} {ao : Option Addr} {c : Nat} {ys : List Xs} (hn : w.cell? ⟨g, 0, none⟩ = some (.int .i64 (n : Int))) (hrow : w.ownsRow 0 78 3 (.slice ao ys.length c) ys.length (flatX ys)) (hf : Fit n ys) (hlen : ys.length ≤ 1000) :
    Calls Tryz.prog 127 #[.pointer (some ⟨g, 0, none⟩), .slice ao ys.length c] w fun e w' => e = .returned (.int .i64 0) ∧ Below w.heap.size w w' := by
  have HR := hid hrow
  have HF := hid hf
  have HL := hid hlen
  obtain ⟨yl, hyl⟩ : ∃ yl, Hid (yl = ys.length) := ⟨_, hid rfl⟩
  rw [← hyl.out]
  have HB : Hid (Below w.heap.size w w) := hid (Below.refl _ _)
  have hgw := lt_of_cell hn
  have HN := hid hn
  clear hrow hf hlen hn
  go_enter Tryz.func127, Tryz.ntmps127
  go_wp2
  go_loopw [5, 7, 10, 11, 12, 13, 14, 15, 16, 17, 18, 19, 20, 21, 22, 23, 24, 25, 26, 27, 28, 29, 30, 31, 32, 33, 34, 35, 36, 37] (fun p5 p7 p10 p11 p12 p13 p14 p15 p16 p17 p18 p19 p20 p21 p22 p23 p24 p25 p26 p27 p28 p29 p30 p31 p32 p33 p34 p35 p36 p37 wr => ∃ (i : Nat) (L : Int), p10 = .int .i64 i ∧ p5 = .int .i64 L ∧ i ≤ yl ∧ Hid (∀ y, ys[i]? = some y → L < y.num) ∧ Hid (Below w.heap.size w wr))
    (fun p5 p7 p10 p11 p12 p13 p14 p15 p16 p17 p18 p19 p20 p21 p22 p23 p24 p25 p26 p27 p28 p29 p30 p31 p32 p33 p34 p35 p36 p37 _ => match p10 with | .int _ i => (yl - i).toNat | _ => 0)
  case atStart => exact ⟨0, -1, rfl, rfl, by omega, hid (fun y _ => by omega), HB⟩
  case round =>
    obtain ⟨i, L, rfl, rfl, hi, hL, hbw⟩ := hrel
    by_cases hc : (i : Int) < (yl : Int)
    · have hii : i < ys.length := by rw [← hyl.out]; omega
      obtain ⟨y, hy⟩ : ∃ y, ys[i]? = some y := ⟨_, List.getElem?_eq_getElem hii⟩
      obtain ⟨gr, rfl, hgr, c0, c1, c2⟩ := row_at HR.out hy
      obtain ⟨f1, f2, f3, f4⟩ := HF.out.each i y hy
      have c0 := cell_under hbw.out hgr c0
      have c1 := cell_under hbw.out hgr c1
      have c2 := cell_under hbw.out hgr c2
      have hgr2 : gr < wr.heap.size := Nat.lt_of_lt_of_le hgr hbw.out.size
      have H1 := hid (has_anyS6 (w := wr.alloc (.cells #[.int .i64 (y.num : Int), .int .i64 (y.at_ : Int), .slice y.ao y.len y.cap] 78)) (y.num : Int) (cell_under (ba wr _) (Nat.lt_of_lt_of_le hgw hbw.out.size) (cell_under hbw.out hgw HN.out)))
      rw [show decide (0 ≤ (y.num : Int) ∧ (y.num : Int) < n) = true by simp; omega] at H1
      have H2 := hid (isStamp_any (w := wr.alloc (.cells #[.int .i64 (y.num : Int), .int .i64 (y.at_ : Int), .slice y.ao y.len y.cap] 78)) (y.at_ : Int))
      rw [show decide (1 ≤ (y.at_ : Int) ∧ (y.at_ : Int) ≤ 1099511627776) = true by simp; omega] at H2
      have d1 : ¬ (y.num : Int) ≤ L := by have := hL.out y hy; omega
      have d2 : ¬ (2304 : Int) < (y.len : Int) := by omega
      have wi : IntKind.i64.wrap ((i : Int) + 1) = ((i + 1 : Nat) : Int) := by have := HL.out; rw [IntKind.wrap_i64]; omega
      have NX : Hid (∀ z, ys[i + 1]? = some z → (y.num : Int) < z.num) := hid (fun z hz => by have := HF.out.rise i y z hy hz; omega)
      have NB : Hid (Below w.heap.size w (wr.alloc (.cells #[.int .i64 (y.num : Int), .int .i64 (y.at_ : Int), .slice y.ao y.len y.cap] 78))) := hid (hbw.out.trans ((ba wr _).mono hbw.out.size))
      clear hL hbw HB hgr f1 f2 f3 f4 hy hii
      go_wp2_with (first | (go_at_call 157; refine H1.out.mono ?_; rintro e w' ⟨rfl, rfl⟩) | (go_at_call 158; refine H2.out.mono ?_; rintro e w' ⟨rfl, rfl⟩))
      go_roundw
      case rel => exact ⟨i + 1, y.num, rfl, rfl, by omega, NX, NB⟩
      case measure => simp only; omega
    · have hbw := hbw
      clear hL HB
      go_wp2
      go_ret
      exact ⟨rfl, hbw.out⟩

/-- Sheets laid in. -/
def applyS (S : Sheets) (ys : List Xs) : Sheets := ys.foldl (fun S y => setS S y.num (y.at_, y.bs)) S

set_option maxRecDepth 100000 in
set_option maxHeartbeats 4000000 in
theorem Apply_ok {w : World} {g n lv : Nat} {ps : List Nat} {N : Nodes} {P : Pool} {cs : List Comp} {S : Sheets} {ao : Option Addr} {c : Nat} {ys : List Xs} (hA : All (poolC P :: blkC g (bookL n lv ps) 180 :: cs) w) (hB : Bk P n lv ps N S) (hrow : rowC 78 3 (.slice ao ys.length c) ys.length (flatX ys) ∈ cs) (hd : ∀ y ∈ ys, datC y ∈ cs) (hf : Fit n ys) (hlen : ys.length ≤ 1000) :
    Calls Tryz.prog 87 #[.pointer (some ⟨g, 0, none⟩), .slice ao ys.length c] w fun e w' => e = .returned (.int .i64 0) ∧ Has P g n cs (applyS S ys) w' := by
  have hg : w.heap[g]? = some (.cells (bookL n lv ps).toArray 180 (0, 0)) := hA.blk (by simp)
  have hr0 : w.ownsRow 0 78 3 (.slice ao ys.length c) ys.length (flatX ys) := (hA.mem (c := rowC 78 3 (.slice ao ys.length c) ys.length (flatX ys)) (by simp [hrow])).2.1
  have CK := hid (check_ok (g := g) (n := n) (by rw [cell_at hg]; rfl) hr0 hf hlen)
  have H0 := hid (fun w' (hb : Below w.heap.size w w') => (⟨P, lv, ps, N, hA.later hb, hB, fun x hx => hx⟩ : Has P g n cs (applyS S (ys.take 0)) w'))
  have HF := hid hf
  have HR := hid hrow
  have HD := hid hd
  have HL := hid hlen
  obtain ⟨yl, hyl⟩ : ∃ yl, Hid (yl = ys.length) := ⟨_, hid rfl⟩
  rw [← hyl.out] at CK ⊢
  clear hA hB hrow hd hf hg hr0 hlen
  go_enter Tryz.func87, Tryz.ntmps87
  go_wp2_with (go_at_call 127; refine CK.out.mono ?_; rintro e w1 ⟨rfl, hb1⟩)
  have H0 := hid (H0.out w1 hb1)
  clear CK hb1
  go_loopw [7, 16, 17, 18, 19, 20, 21, 22, 23, 24, 25, 26, 27, 28] (fun p7 p16 p17 p18 p19 p20 p21 p22 p23 p24 p25 p26 p27 p28 wr => ∃ i : Nat, p16 = .int .i64 i ∧ i ≤ yl ∧ Hid (Has P g n cs (applyS S (ys.take i)) wr))
    (fun p7 p16 p17 p18 p19 p20 p21 p22 p23 p24 p25 p26 p27 p28 _ => match p16 with | .int _ i => (yl - i).toNat | _ => 0)
  case atStart => exact ⟨0, rfl, by omega, H0⟩
  case round =>
    obtain ⟨i, rfl, hi, hH⟩ := hrel
    by_cases hc : (i : Int) < (yl : Int)
    · have hii : i < ys.length := by rw [← hyl.out]; omega
      obtain ⟨y, hy⟩ : ∃ y, ys[i]? = some y := ⟨_, List.getElem?_eq_getElem hii⟩
      obtain ⟨Q, lv1, ps1, N1, A1, B1, S1⟩ := hH.out
      have hr1 : wr.ownsRow 0 78 3 (.slice ao ys.length c) ys.length (flatX ys) := (A1.mem (c := rowC 78 3 (.slice ao ys.length c) ys.length (flatX ys)) (by simp [HR.out])).2.1
      obtain ⟨gr, rfl, hgr, c0, c1, c2⟩ := row_at hr1 hy
      obtain ⟨f1, f2, f3, f4⟩ := HF.out.each i y hy
      have hdat : wr.ownsRow 0 5 1 y.v y.bs.length (cellsB y.bs) := (A1.mem (c := datC y) (by simp [HD.out y (List.mem_of_getElem? hy)])).2.1
      have hrd := ReadsS6.of_owns hdat
      have hlb : y.len = y.bs.length := by
        obtain ⟨a', c', e'⟩ := owns_form hdat
        simp only [Xs.v, Value.slice.injEq] at e'
        exact e'.2.1
      have hlv := B1.lv64
      have hnl := B1.nlv
      have PP := hid ((set_all (num := y.num) (a := y.at_) (A1.alloc (.cells #[.int .i64 (y.num : Int), .int .i64 (y.at_ : Int), .slice y.ao y.len y.cap] 78)) B1.tr hlv (by omega) B1.ord (hrd.below (ba wr _)) (by omega)).mono (fun e w' (hq : _ ∧ _) => (⟨hq.1, by
        obtain ⟨Q2, lv2, ps2, N2, A2, B2, S2⟩ := hq.2.has B1 f1 f3 (by omega)
        have e1 : setS (applyS S (ys.take i)) y.num (y.at_, y.bs) = applyS S (ys.take (i + 1)) := by
          rw [List.take_add_one, hy]
          simp [applyS]
        rw [e1] at B2
        exact hid ⟨Q2, lv2, ps2, N2, A2, B2, fun x hx => S2 x (S1 x hx)⟩⟩ : (∃ v, e = .returned v) ∧ Hid (Has P g n cs (applyS S (ys.take (i + 1))) w'))))
      have wi : IntKind.i64.wrap ((i : Int) + 1) = ((i + 1 : Nat) : Int) := by have := HL.out; rw [IntKind.wrap_i64]; omega
      simp only [Xs.v] at PP
      clear A1 B1 hH H0 S1 hr1 f1 f2 f3 f4 hdat hrd hlb hlv hnl hy hii
      go_wp2_with (go_at_call 128; refine PP.out.mono ?_; rintro e w4 ⟨⟨v4, rfl⟩, h4⟩)
      go_roundw
      case rel => exact ⟨i + 1, rfl, by omega, h4⟩
      case measure => simp only; omega
    · have ei : Hid (i = ys.length) := hid (by have := hyl.out; omega)
      have FIN : Hid (Has P g n cs (applyS S ys) wr) := hid (by have := hH.out; rw [ei.out, List.take_length] at this; exact this)
      clear hH H0 ei
      go_wp2
      go_ret
      exact ⟨rfl, FIN.out⟩

end Go.Proofs.YtafickhhdemjnaaGreatDoor

namespace Go.Proofs.YtafickhhdemjnaaGreatDoor
open Go.RowKit
set_option linter.unusedVariables false
set_option maxRecDepth 100000

/-- An engine's seven cells. -/
def engV (op g Sh Rl kop kg ev : Nat) : List Value := [.int .i64 (op : Int), .pointer (some ⟨g, 0, none⟩), .pointer (some ⟨Sh, 0, none⟩), .pointer (some ⟨Rl, 0, none⟩), .int .i64 (kop : Int), .pointer (some ⟨kg, 0, none⟩), .int .i64 (ev : Int)]
theorem at_any {w : World} {X o : Nat} {n : Int} (h : w.cell? ⟨X, o, none⟩ = some (.int .i64 n)) : Calls Tryz.prog 45 #[.pointer (some ⟨X, o, none⟩)] w fun e w' => e = .returned (.int .i64 n) ∧ w' = w := by
  go_enter Tryz.func45, Tryz.ntmps45
  go_wp2
  go_ret
  exact ⟨rfl, rfl⟩
theorem Op_any {w : World} {X : Nat} {n : Int} (h : w.cell? ⟨X, 0, none⟩ = some (.int .i64 n)) : Calls Tryz.prog 14 #[.pointer (some ⟨X, 0, none⟩)] w fun e w' => e = .returned (.int .i64 n) ∧ w' = w := by
  go_enter Tryz.func14, Tryz.ntmps14
  go_wp2_with (go_at_call 45; refine (at_any h).mono ?_; rintro e w1 ⟨rfl, h1⟩; subst w1)
  go_ret
  exact ⟨rfl, rfl⟩
theorem Base_any {w : World} {X : Nat} {n : Int} (h : w.cell? ⟨X, 4, none⟩ = some (.int .i64 n)) : Calls Tryz.prog 16 #[.pointer (some ⟨X, 0, none⟩)] w fun e w' => e = .returned (.int .i64 n) ∧ w' = w := by
  go_enter Tryz.func16, Tryz.ntmps16
  go_wp2_with (go_at_call 45; refine (at_any h).mono ?_; rintro e w1 ⟨rfl, h1⟩; subst w1)
  go_ret
  exact ⟨rfl, rfl⟩
theorem due_any {w : World} {X op ev : Nat} (h : w.cell? ⟨X, 6, none⟩ = some (.int .i64 (ev : Int))) (h1 : 1 ≤ ev) (h2 : ev ≤ 64) (ho : op ≤ 1099511627776) : Calls Tryz.prog 54 #[.pointer (some ⟨X, 4, none⟩), .int .i64 (op : Int)] w fun e w' => e = .returned (.bool (decide (op % ev = 0))) ∧ w' = w := by
  have n0 : ((ev : Int) == 0) = false := by simp; omega
  have e1 : (op : Int) % (ev : Int) = ((op % ev : Nat) : Int) := rfl
  by_cases hd : op % ev = 0
  · have d : ((op : Int) % (ev : Int) == 0) = true := by rw [e1, hd]; rfl
    have d1 : decide (op % ev = 0) = true := by simpa using hd
    rw [d1]
    clear e1 hd d1
    go_enter Tryz.func54, Tryz.ntmps54
    go_wp2
    go_ret
    exact ⟨rfl, rfl⟩
  · have d : ((op : Int) % (ev : Int) == 0) = false := by rw [e1]; simp; omega
    have d1 : decide (op % ev = 0) = false := by simpa using hd
    rw [d1]
    clear e1 hd d1
    go_enter Tryz.func54, Tryz.ntmps54
    go_wp2
    go_ret
    exact ⟨rfl, rfl⟩
theorem mayE_any {w : World} (ev : Int) : Calls Tryz.prog 20 #[.int .i64 ev] w fun e w' => e = .returned (.bool (decide (1 ≤ ev ∧ ev ≤ 64))) ∧ w' = w := by
  by_cases h1 : 1 ≤ ev
  · have e1 : decide (1 ≤ ev) = true := by simpa using h1
    have e2 : decide (1 ≤ ev ∧ ev ≤ 64) = decide (ev ≤ 64) := by rw [Bool.eq_iff_iff]; simp [h1]
    rw [e2]
    clear e2 h1
    go_enter Tryz.func20, Tryz.ntmps20
    go_wp2
    go_ret
    exact ⟨rfl, rfl⟩
  · have e1 : decide (1 ≤ ev) = false := by simpa using h1
    have e2 : decide (1 ≤ ev ∧ ev ≤ 64) = false := by simp; omega
    rw [e2]
    clear e2 h1
    go_enter Tryz.func20, Tryz.ntmps20
    go_wp2
    go_ret
    exact ⟨rfl, rfl⟩
end Go.Proofs.YtafickhhdemjnaaGreatDoor

namespace Go.Proofs.YtafickhhdemjnaaGreatDoor
open Go.RowKit
set_option linter.unusedVariables false
set_option maxRecDepth 100000

/-- An entry. -/
def entV (c q k : Int) (nm tx : ByteArray) (n m : Int) : Value := .agg #[.int .i64 c, .int .i64 q, .int .i64 k, .string nm, .string tx, .int .i64 n, .int .i64 m]
/-- It may be. -/
def mayT (c q k : Int) (nm tx : ByteArray) (n m : Int) : Bool := decide (0 ≤ c ∧ c < 8 ∧ 1 ≤ q ∧ q ≤ 1099511627776 ∧ chkA k nm.size tx.size n m = 0)
set_option maxRecDepth 1000000 in
set_option maxHeartbeats 1600000 in
theorem mayBeE_any {w : World} (hT : Tab w) (c q k : Int) (nm tx : ByteArray) (n m : Int) : Calls Tryz.prog 52 #[entV c q k nm tx n m] w fun e w' => e = .returned (.bool (mayT c q k nm tx n m)) ∧ Below w.heap.size w w' := by
  have HB := hid (ba w (.cells #[.int .i64 c, .int .i64 q, .int .i64 k, .string nm, .string tx, .int .i64 n, .int .i64 m] 36))
  have HT := hid (hT.below HB.out)
  clear hT
  unfold entV mayT
  by_cases h1 : 0 ≤ c
  case neg =>
    have e1 : decide (0 ≤ c) = false := by simpa using h1
    have e : decide (0 ≤ c ∧ c < 8 ∧ 1 ≤ q ∧ q ≤ 1099511627776 ∧ chkA k nm.size tx.size n m = 0) = false := by simp; omega
    rw [e]
    clear e h1
    go_enter Tryz.func52, Tryz.ntmps52
    go_wp2
    go_ret
    exact ⟨rfl, HB.out⟩
  have e1 : decide (0 ≤ c) = true := by simpa using h1
  by_cases h2 : c < 8
  case neg =>
    have e2 : decide (c < 8) = false := by simpa using h2
    have e : decide (0 ≤ c ∧ c < 8 ∧ 1 ≤ q ∧ q ≤ 1099511627776 ∧ chkA k nm.size tx.size n m = 0) = false := by simp; omega
    rw [e]
    clear e h1 h2
    go_enter Tryz.func52, Tryz.ntmps52
    go_wp2
    go_ret
    exact ⟨rfl, HB.out⟩
  have e2 : decide (c < 8) = true := by simpa using h2
  by_cases h3 : 1 ≤ q
  case neg =>
    have e3 : decide (1 ≤ q) = false := by simpa using h3
    have e : decide (0 ≤ c ∧ c < 8 ∧ 1 ≤ q ∧ q ≤ 1099511627776 ∧ chkA k nm.size tx.size n m = 0) = false := by simp; omega
    rw [e]
    clear e h1 h2 h3
    go_enter Tryz.func52, Tryz.ntmps52
    go_wp2
    go_ret
    exact ⟨rfl, HB.out⟩
  have e3 : decide (1 ≤ q) = true := by simpa using h3
  by_cases h4 : q ≤ 1099511627776
  case neg =>
    have e4 : decide (q ≤ 1099511627776) = false := by simpa using h4
    have e : decide (0 ≤ c ∧ c < 8 ∧ 1 ≤ q ∧ q ≤ 1099511627776 ∧ chkA k nm.size tx.size n m = 0) = false := by simp; omega
    rw [e]
    clear e h1 h2 h3 h4
    go_enter Tryz.func52, Tryz.ntmps52
    go_wp2
    go_ret
    exact ⟨rfl, HB.out⟩
  have e4 : decide (q ≤ 1099511627776) = true := by simpa using h4
  have e : decide (0 ≤ c ∧ c < 8 ∧ 1 ≤ q ∧ q ≤ 1099511627776 ∧ chkA k nm.size tx.size n m = 0) = (chkA k nm.size tx.size n m == 0) := by rw [Bool.eq_iff_iff]; simp [h1, h2, h3, h4]
  rw [e]
  have CK := hid (check_any HT.out k nm tx n m)
  generalize chkA k nm.size tx.size n m = X at *
  clear e h1 h2 h3 h4
  go_enter Tryz.func52, Tryz.ntmps52
  go_wp2_with (go_at_call 80; refine CK.out.mono ?_; rintro e w1 ⟨rfl, B1⟩; have HB1 := hid (b2 HB.out B1); clear B1)
  go_ret
  exact ⟨rfl, HB1.out⟩
end Go.Proofs.YtafickhhdemjnaaGreatDoor

namespace Go.Proofs.YtafickhhdemjnaaGreatDoor
open Go.ChangeShapes Go.WideShapes Go.ChangeAt Go.RowKit Go.Deep Go.Joins
set_option linter.unusedVariables false

/-- An entry. -/
structure En where
  c : Int
  q : Int
  k : Int
  nm : ByteArray
  tx : ByteArray
  n : Int
  m : Int
def En.cells (x : En) : List Value := [.int .i64 x.c, .int .i64 x.q, .int .i64 x.k, .string x.nm, .string x.tx, .int .i64 x.n, .int .i64 x.m]
theorem En.len (x : En) : x.cells.length = 7 := rfl
/-- Entries that came in. -/
def EntsW (w : World) (v : Value) (l : List En) : Prop := ∃ ao c, v = .slice ao l.length c ∧ l.length ≤ c ∧ (ao = none → l = [] ∧ c = 0) ∧ ∀ (i : Nat) (x : En), l[i]? = some x → ∃ g o, ao = some ⟨g, o, none⟩ ∧ g < w.heap.size ∧ w.rangeAt g (o + i * 7) x.cells
theorem EntsW.later {w w' : World} {v : Value} {l : List En} (h : EntsW w v l) (hb : Below w.heap.size w w') : EntsW w' v l := by
  obtain ⟨ao, c, h1, h2, h3, h4⟩ := h
  refine ⟨ao, c, h1, h2, h3, fun i x hx => ?_⟩
  obtain ⟨g, o, e, hg, hr⟩ := h4 i x hx
  exact ⟨g, o, e, Nat.lt_of_lt_of_le hg hb.size, fun j v hv => cell_under hb hg (hr j v hv)⟩
theorem EntsW.form {w : World} {v : Value} {l : List En} (h : EntsW w v l) : ∃ ao c, v = .slice ao l.length c := by
  obtain ⟨ao, c, h1, _⟩ := h
  exact ⟨ao, c, h1⟩
/-- An entry's cells, one by one. -/
theorem EntsW.cells {w W : World} {ao : Option Addr} {n c : Nat} {l : List En} (h : EntsW w (.slice ao n c) l) (hb : Below w.heap.size w W) {i : Nat} {x : En} (hx : l[i]? = some x) : ∃ g o, ao = some ⟨g, o, none⟩ ∧
    W.cell? ⟨g, o + i * 7, none⟩ = some (.int .i64 x.c) ∧ W.cell? ⟨g, o + i * 7 + 1, none⟩ = some (.int .i64 x.q) ∧ W.cell? ⟨g, o + i * 7 + 2, none⟩ = some (.int .i64 x.k) ∧ W.cell? ⟨g, o + i * 7 + 3, none⟩ = some (.string x.nm) ∧ W.cell? ⟨g, o + i * 7 + 4, none⟩ = some (.string x.tx) ∧ W.cell? ⟨g, o + i * 7 + 5, none⟩ = some (.int .i64 x.n) ∧ W.cell? ⟨g, o + i * 7 + 6, none⟩ = some (.int .i64 x.m) := by
  obtain ⟨ao', c', h1, h2, h3, h4⟩ := h
  simp only [Value.slice.injEq] at h1
  obtain ⟨rfl, _, _⟩ := h1
  obtain ⟨g, o, e, hg, hr⟩ := h4 i x hx
  have key : ∀ j u, x.cells[j]? = some u → W.cell? ⟨g, o + i * 7 + j, none⟩ = some u := fun j u hu => cell_under hb hg (hr j u hu)
  exact ⟨g, o, e, key 0 _ rfl, key 1 _ rfl, key 2 _ rfl, key 3 _ rfl, key 4 _ rfl, key 5 _ rfl, key 6 _ rfl⟩

theorem Tryz.cells36 : Tryz.prog.cellsOf 36 = 7 := by kernel_rfl
theorem Tryz.bytes36 : Tryz.prog.bytesOf 36 = 72 := by kernel_rfl
theorem reach_numE : reachBytes = 140737488351232 := by decide
theorem choose_ltE {α : Type} [Inhabited α] {n : Nat} {P : Nat → α → Prop} (h : ∀ i, i < n → ∃ x, P i x) : ∃ f : Nat → α, ∀ i, i < n → P i (f i) := by
  classical
  refine ⟨fun i => if hi : i < n then Classical.choose (h i hi) else default, fun i hi => ?_⟩
  simp only [hi, dif_pos]
  exact Classical.choose_spec (h i hi)
theorem spot_ofE {a : Addr} {W : World} {u : Value} (h : W.cell? (a.add 0) = some u) : a.spot = none ∧ a.block < W.heap.size := by
  have h1 := World.cell?_spot h
  have h2 := World.block_lt_of_cell? W _ h
  exact ⟨by simpa [Addr.add] using h1, by simpa [Addr.add] using h2⟩
theorem list7E {l : List Value} {a b c d e f g : Value} (hl : l.length = 7) (h0 : (l.drop 0).take 1 = [a]) (h1 : (l.drop 1).take 1 = [b]) (h2 : (l.drop 2).take 5 = [c, d, e, f, g]) : l = [a, b, c, d, e, f, g] := by
  match l, hl with
  | [x0, x1, x2, x3, x4, x5, x6], _ => simp at h0 h1 h2; simp [h0, h1, h2]
section
variable {H : Type} {enc : TypeId × Value → H} {W : World} {fuel : Nat} {cs : List Value} {x : DataW H × List MemPlace}

set_option maxRecDepth 100000 in
theorem ent_cells (h : DataW.trod enc Tryz.prog W 0 (fun _ => true) true fuel 36 cs = some x) : ∃ e : En, cs = e.cells := by
  obtain ⟨xs, f, _, rfl, hl, hlen, hf⟩ := DataW.trod_struct Tryz.underlying36 h
  have hlen : xs.length = 3 := hlen
  obtain ⟨y0, hy0⟩ := nth hlen (i := 0) (by omega)
  obtain ⟨y1, hy1⟩ := nth hlen (i := 1) (by omega)
  obtain ⟨y2, hy2⟩ := nth hlen (i := 2) (by omega)
  have g0 : DataW.trod enc Tryz.prog W 0 (fun _ => true) true f 3 ((cs.drop 0).take (Tryz.prog.cellsOf 3)) = some y0 := (hf 0 _ rfl).trans hy0
  have g1 : DataW.trod enc Tryz.prog W 0 (fun _ => true) true f 3 ((cs.drop 1).take (Tryz.prog.cellsOf 3)) = some y1 := (hf 1 _ rfl).trans hy1
  have g2 : DataW.trod enc Tryz.prog W 0 (fun _ => true) true f 34 ((cs.drop 2).take (Tryz.prog.cellsOf 34)) = some y2 := (hf 2 _ rfl).trans hy2
  rw [Tryz.cells3] at g0 g1
  rw [Tryz.cells34] at g2
  rw [Tryz.cells36] at hl
  obtain ⟨c, e0, _, _⟩ := DataW.trod_int Tryz.underlying3 g0
  obtain ⟨n, e1, _, _⟩ := DataW.trod_int Tryz.underlying3 g1
  obtain ⟨k, nm, tx, m, q, e2, _⟩ := op_cells g2
  exact ⟨⟨c, n, k, nm, tx, m, q⟩, list7E hl e0 e1 e2⟩

set_option maxRecDepth 100000 in
/-- Entries that came in. -/
theorem ents_cells (h : DataW.trod enc Tryz.prog W 0 (fun _ => true) true fuel 47 cs = some x) (hz : ∀ n ∈ x.1.weights Tryz.prog 47, n ≤ reachBytes) : ∃ s l, cs = [s] ∧ EntsW W s l ∧ l.length * 72 ≤ 140737488351232 := by
  rcases open_slice Tryz.underlying47 h with ⟨hcs, hx⟩ | ⟨a, len, cap, m, n, D, Pl, hcs, _, hl, hm, hmm, hx, hel⟩
  · exact ⟨_, [], hcs, ⟨none, 0, rfl, by simp, fun _ => ⟨rfl, rfl⟩, fun i x hx => by simp at hx⟩, by simp⟩
  · have hlm : len ≤ m := by rw [hmm]; split <;> omega
    have each : ∀ i, i < len → ∃ e : En, ∀ j u, e.cells[j]? = some u → W.cell? (a.add (i * 7 + j)) = some u := by
      intro i hi
      obtain ⟨cs', h1, h2⟩ := hel i (by omega)
      rw [Tryz.cells36] at h1
      obtain ⟨_, hlen, hcell⟩ := World.cells?_some h1
      obtain ⟨e, rfl⟩ := ent_cells h2
      refine ⟨e, fun j u hu => ?_⟩
      have hj : j < 7 := by
        have := (List.getElem?_eq_some_iff.1 hu).1
        rwa [e.len] at this
      have q := hcell j (by omega)
      rw [add_add] at q
      rw [q, ← hu]
    haveI : Inhabited En := ⟨⟨0, 0, 0, ⟨#[]⟩, ⟨#[]⟩, 0, 0⟩⟩
    obtain ⟨f, hf'⟩ := choose_ltE each
    have hw : len * 72 ≤ 140737488351232 := by
      have := hz ((len + (m - len)) * 72) (by
        rw [hx]
        simp [DataW.weights, Tryz.underlying47, Tryz.bytes36])
      rw [reach_numE] at this
      omega
    refine ⟨_, (List.range len).map f, hcs, ⟨some a, cap, by simp, by simpa using hl, (fun h => by cases h), fun i e he => ?_⟩, by simpa using hw⟩
    have hi : i < len := by
      have := (List.getElem?_eq_some_iff.1 he).1
      simpa using this
    obtain rfl : f i = e := by
      rw [List.getElem?_map, List.getElem?_range hi] at he
      simpa using he
    have h00 := hf' 0 (by omega) 0 _ rfl
    obtain ⟨hsp, hb⟩ := spot_ofE (by simpa using h00)
    obtain ⟨b, off, sp⟩ := a
    simp only at hsp
    subst hsp
    refine ⟨b, off, rfl, hb, fun j u hu => ?_⟩
    have := hf' i hi j u hu
    rw [Addr.add_lit] at this
    rw [Nat.add_assoc]
    exact this

/-- Entries that came in, as an argument. -/
theorem open_ents {v : Value} {d : DataW H} {p : List MemPlace} (h : DataW.Trod enc Tryz.prog W 0 (fun _ => true) true 47 v d p) (hv : ∃ a l c, v = .slice a l c) (hz : ∀ n ∈ d.weights Tryz.prog 47, n ≤ reachBytes) :
    ∃ l, EntsW W v l ∧ l.length * 72 ≤ 140737488351232 := by
  obtain ⟨fuel, hf⟩ := h
  obtain ⟨a0, l0, c0, rfl⟩ := hv
  obtain ⟨s, l, e, h1, h2⟩ := ents_cells hf hz
  simp [Value.cells] at e
  subst e
  exact ⟨l, h1, h2⟩
end
end Go.Proofs.YtafickhhdemjnaaGreatDoor

import Derived.Test.YtaomhahmpbfjhaaLooksLaw
import Derived.Deep.QuietTactic
import Derived.BigQuiet
namespace Go.Proofs.Ytaomhahmpbfjhaa
open Go.RowKit
set_option linter.unusedVariables false

/-- The sheets that are newer, by rising numbers. -/
def newS (S : Sheets) (a : Nat) (l : List Nat) : List (Nat × Nat × List UInt8) := l.filterMap fun i => if a < (S i).1 then some (i, (S i).1, (S i).2) else none
theorem newS_append (S : Sheets) (a : Nat) (l m : List Nat) : newS S a (l ++ m) = newS S a l ++ newS S a m := by simp [newS]
theorem newS_nil {S : Sheets} {a : Nat} {l : List Nat} (h : ∀ i ∈ l, (S i).1 ≤ a) : newS S a l = [] := by
  unfold newS
  refine List.filterMap_eq_nil_iff.2 (fun i hi => ?_)
  have := h i hi
  rw [if_neg (by omega)]

/-- What is found is what is newer. -/
theorem Bk.found {P : Pool} {n h a : Nat} {ps : List Nat} {N : Nodes} {S : Sheets} (hB : Bk P n (2 ^ h) ps N S) : ∀ e d q, d + e = h → q < 2 ^ d → sel N (2 ^ h) a (vis N a e (2 ^ d + q)) = newS S a (List.range' (q * 2 ^ e) (2 ^ e))
  | 0, d, q, hd, hq => by
    have hd : d = h := by omega
    subst hd
    have hsh := hB.sh q hq
    have e1 : (N (2 ^ d + q)).1 = (S q).1 := by rw [← hsh]
    have e2 : (N (2 ^ d + q)).2.2 = (S q).2 := by rw [← hsh]
    simp only [vis, sel, newS, Nat.pow_zero, Nat.mul_one, List.range'_one, List.filterMap_cons, List.filterMap_nil, e1, e2, Nat.add_sub_cancel_left, Nat.le_add_right, true_and]
  | e + 1, d, q, hd, hq => by
    have h2 : 2 ^ d < 2 ^ h := Nat.pow_lt_pow_right (by omega) (by omega)
    have h3 : 2 ^ (d + 1) ≤ 2 ^ h := Nat.pow_le_pow_right (by omega) (by omega)
    have h4 : 2 ^ (d + 1) = 2 * 2 ^ d := by rw [Nat.pow_succ]; omega
    have hp : 0 < 2 ^ d := Nat.pow_pos (by omega)
    have hat := hB.at (e + 1) d q hd hq
    by_cases hc : (N (2 ^ d + q)).1 ≤ a
    · rw [vis, if_pos hc, newS_nil (fun i hi => ?_), sel_cons, if_neg (by omega)]
      · rfl
      · obtain ⟨j, hj, rfl⟩ := List.mem_range'.1 hi
        have := mx_le S (q * 2 ^ (e + 1)) hj
        rw [Nat.one_mul]
        omega
    · have c1 := Bk.found (a := a) hB e (d + 1) (2 * q) (by omega) (by omega)
      have c2 := Bk.found (a := a) hB e (d + 1) (2 * q + 1) (by omega) (by omega)
      rw [h4] at c1 c2
      have e1 : 2 * (2 ^ d + q) = 2 * 2 ^ d + 2 * q := by omega
      have e2 : 2 * (2 ^ d + q) + 1 = 2 * 2 ^ d + (2 * q + 1) := by omega
      have hlt : 2 ^ d + q < 2 ^ h := by omega
      rw [vis, if_neg hc, sel_cons, if_neg (by omega), List.nil_append, sel_append, e2, e1, c1, c2, ← newS_append]
      have h5 : 2 ^ (e + 1) = 2 ^ e + 2 ^ e := by rw [Nat.pow_succ]; omega
      have h6 : q * 2 ^ (e + 1) = 2 * q * 2 ^ e := by rw [Nat.pow_succ, Nat.mul_comm (2 ^ e) 2, ← Nat.mul_assoc, Nat.mul_comm q 2]
      have h7 : (2 * q + 1) * 2 ^ e = 2 * q * 2 ^ e + 2 ^ e := by rw [Nat.add_mul, Nat.one_mul]
      rw [h6, h5, h7]
      congr 1
      have := List.range'_append (s := 2 * q * 2 ^ e) (m := 2 ^ e) (n := 2 ^ e) (step := 1)
      rw [Nat.one_mul] at this
      exact this

theorem Bk.foundAll {P : Pool} {n h a : Nat} {ps : List Nat} {N : Nodes} {S : Sheets} (hB : Bk P n (2 ^ h) ps N S) : sel N (2 ^ h) a (vis N a h 1) = newS S a (List.range (2 ^ h)) := by
  have := hB.found (a := a) h 0 0 (by omega) (by simp)
  simpa [List.range_eq_range'] using this

set_option maxRecDepth 100000 in
set_option maxHeartbeats 4000000 in
theorem Snap_all {w : World} {g n lv : Nat} {ps : List Nat} {P : Pool} {cs : List Comp} {N : Nodes} {S : Sheets} (hA : All (poolC P :: blkC g (bookL n lv ps) 70 :: cs) w) (hB : Bk P n lv ps N S) :
    Calls Try.prog 17 #[.pointer (some ⟨g, 0, none⟩)] w fun e w' => ∃ g2, e = .returned (.pointer (some ⟨g2, 0, none⟩)) ∧ All (poolC P :: blkC g (bookL n lv ps) 70 :: blkC g2 (bookL n lv ps) 70 :: cs) w' := by
  have hg : w.heap[g]? = some (.cells (bookL n lv ps).toArray 70 (0, 0)) := hA.blk (by simp)
  obtain ⟨C, hC⟩ : ∃ C, Hid (C = (bookL n lv ps).toArray) := ⟨_, hid rfl⟩
  have hps := hB.tr.len
  have hCs : C.size = 18 := by rw [hC.out]; simp [bookL, treeL, hps]
  have hC1 : C.all (·.oneCell') = true := by
    rw [hC.out]
    simp [bookL, treeL, Value.oneCell', ptr]
  have hi70 : (Try.prog.info? 70).map (·.size) = some C.size := by rw [hCs]; kernel_rfl
  have A2 := hA.addBlk (bookL n lv ps) 70
  rw [← hC.out] at hg A2
  obtain ⟨Z, hZ⟩ : ∃ Z : Array Value, Hid (Z = #[.int .i64 0, .int .i64 0, .pointer none, .pointer none, .pointer none, .pointer none, .pointer none, .pointer none, .pointer none, .pointer none, .pointer none, .pointer none, .pointer none, .pointer none, .pointer none, .pointer none, .pointer none, .pointer none]) := ⟨_, hid rfl⟩
  have hZs : Z.size = 18 := by rw [hZ.out]; rfl
  have hT : (w.alloc (.cells #[.int .i64 0, .int .i64 0, .pointer none, .pointer none, .pointer none, .pointer none, .pointer none, .pointer none, .pointer none, .pointer none, .pointer none, .pointer none, .pointer none, .pointer none, .pointer none, .pointer none, .pointer none, .pointer none] 70)).heap[w.heap.size]? = some (.cells Z 70 (0, 0)) := by rw [hZ.out]; exact heap_alloc_new w _
  have hrow := setRow_heap _ w.heap.size _ C 70 (0, 0) hT
  have AF : All (poolC P :: blkC g (bookL n lv ps) 70 :: blkC w.heap.size (bookL n lv ps) 70 :: cs) ((w.alloc (.cells #[.int .i64 0, .int .i64 0, .pointer none, .pointer none, .pointer none, .pointer none, .pointer none, .pointer none, .pointer none, .pointer none, .pointer none, .pointer none, .pointer none, .pointer none, .pointer none, .pointer none, .pointer none, .pointer none] 70)).setRow w.heap.size C) := by
    have h1 : All (blkC w.heap.size (bookL n lv ps) 70 :: poolC P :: blkC g (bookL n lv ps) 70 :: cs) ((w.alloc (.cells #[.int .i64 0, .int .i64 0, .pointer none, .pointer none, .pointer none, .pointer none, .pointer none, .pointer none, .pointer none, .pointer none, .pointer none, .pointer none, .pointer none, .pointer none, .pointer none, .pointer none, .pointer none, .pointer none] 70)).setRow w.heap.size C) := by
      refine hA.add ⟨rfl, rfl, rfl, by simp, fun k hk _ => (setRow_other _ w.heap.size k _ (by omega)).trans (Below.heap_alloc _ _ _ hk)⟩ (blkC_good _ _ _) ?_ (fun k hk => ?_)
      · show _ = some (Obj.cells (bookL n lv ps).toArray 70 (0, 0))
        rw [hrow, hC.out]
      · have : k = w.heap.size := by simpa [blkC] using hk
        subst this
        simp
    exact h1.perm ((List.Perm.swap _ _ _).trans (.cons _ (List.Perm.swap _ _ _)))
  have HH := hid (show _ ∧ _ ∧ _ ∧ _ ∧ _ from ⟨hg, hi70, hT, hZs.trans hCs.symm, hC1⟩)
  have AF := hid AF
  clear hA hB hg A2 hps hCs hC1 hi70 hZs hT hrow
  go_enter Try.func17, Try.ntmps17
  go_wp2_with (first | (refine wpList_load_row rfl 70 _ rfl g rfl 70 C (0, 0) _ HH.out.1 Try.underlying70 rfl HH.out.2.1 ?_) | (refine wpList_store_row rfl 70 _ _ rfl w.heap.size C rfl rfl 70 _ HH.out.2.2.1 HH.out.2.1 HH.out.2.2.2.1 HH.out.2.2.2.2 ?_))
  go_ret
  exact ⟨w.heap.size, rfl, AF.out⟩

set_option maxHeartbeats 4000000 in
theorem Get_all {w : World} {g n lv i : Nat} {ps : List Nat} {P : Pool} {cs : List Comp} {N : Nodes} {S : Sheets} (hA : All (poolC P :: blkC g (bookL n lv ps) 70 :: cs) w) (hB : Bk P n lv ps N S) (hi : i < n) :
    Calls Try.prog 21 #[.pointer (some ⟨g, 0, none⟩), .int .i64 (i : Int)] w fun e w' => ∃ a c, e = .returned (.tuple #[.slice a (S i).2.length c, .int .i64 ((S i).1 : Int), .int .i64 0]) ∧ All (rowC 5 1 (.slice a (S i).2.length c) (S i).2.length (cellsB (S i).2) :: poolC P :: blkC g (bookL n lv ps) 70 :: cs) w' := by
  have hg : w.heap[g]? = some (.cells (treeL [.int .i64 (n : Int)] lv ps).toArray 70 (0, 0)) := hA.blk (by simp [bookL])
  have V := hB.tr.view (fun x hx => hA.poolIn hx) hg
  have hn : w.cell? ⟨g, 0, none⟩ = some (.int .i64 (n : Int)) := by rw [cell_at hg]; rfl
  have h1 := hid (has_any (i : Int) hn)
  rw [show decide (0 ≤ (i : Int) ∧ (i : Int) < n) = true by simp; omega] at h1
  have hlv := hB.lv64
  have hnl := hB.nlv
  obtain ⟨q, q1, q2, q3, q4⟩ := V.node (lv + i) (by omega)
  have h4 := hid (leaf_any (g := g) (o := 1) (k := i) (p := q) (by omega) V.leaves q1)
  have hsh := hB.sh i (by omega)
  have e1 : (N (lv + i)).1 = (S i).1 := by rw [← hsh]
  have e2 : (N (lv + i)).2.2 = (S i).2 := by rw [← hsh]
  rw [e1] at q2
  rw [e2] at q4
  have hcap := (hB.cap i).2
  have C := hid (Clone_any q4.drew (by omega))
  obtain ⟨b1, b2, b3, hb⟩ : ∃ b1 b2 b3, (N (lv + i)).2.1 = .slice b1 b2 b3 := by
    obtain ⟨b1, b3, hb⟩ := q4.form
    exact ⟨_, _, _, hb⟩
  rw [hb] at q3 C
  have F : ∀ (w2 : World) (v : Value), w2.ownsRow w.drew.heap.size 5 1 v (S i).2.length (cellsB (S i).2) → Below w.drew.heap.size w.drew w2 → ∃ a c, v = .slice a (S i).2.length c ∧ w2.cell? ⟨q, (lv + i) % 8 * 2, none⟩ = some (.int .i64 ((S i).1 : Int)) ∧ Hid (All (rowC 5 1 (.slice a (S i).2.length c) (S i).2.length (cellsB (S i).2) :: poolC P :: blkC g (bookL n lv ps) 70 :: cs) w2) := by
    intro w2 v ho hb
    obtain ⟨a, c, rfl⟩ := owns_form ho
    refine ⟨a, c, rfl, cell_under hb (lt_of_cell q2) q2, hid (hA.drew.add (Fr.below hb) (rowC_good _ _ _ _ _) (owns_zero ho) (fun k hk => ?_))⟩
    have hk' : (Value.slice a (S i).2.length c).ownBlock = some k := by simpa [rowC] using hk
    exact World.ownsRow.lt ho k hk'
  have F := hid F
  have q2' : w.drew.cell? ⟨q, (lv + i) % 8 * 2, none⟩ = some (.int .i64 ((S i).1 : Int)) := q2
  have q3' : w.drew.cell? ⟨q, (lv + i) % 8 * 2 + 1, none⟩ = some (.slice b1 b2 b3) := q3
  generalize (lv + i) % 8 * 2 = r at *
  generalize (S i).1 = x at *
  generalize (S i).2 = bs at *
  clear hA hB hg V hn hlv hnl q1 q4 hsh e1 e2 hcap hb hi
  go_enter Try.func21, Try.ntmps21
  go_wp2_with (first | (go_at_call 33; refine h1.out.mono ?_; rintro e w' ⟨rfl, rfl⟩) | (go_at_call 36; refine h4.out.mono ?_; rintro e w' ⟨rfl, rfl⟩))
  go_region_law (go_simp; go_at_call 44; refine C.out.mono ?_; rintro e w2 ⟨v, rfl, ho, hb⟩; obtain ⟨a, c, rfl, k2, hF⟩ := F.out _ _ ho hb; clear ho hb)
  all_goals
    go_wp2
    go_ret3
    exact ⟨a, c, rfl, hF.out⟩

/-- Lists that are alike. -/
def intOf : Value → Int
  | .int _ i => i
  | _ => 0

set_option maxHeartbeats 1600000 in
set_option maxRecDepth 1000000 in
theorem same_eq {w : World} {s t : Value} {l : List UInt8} (hs : Reads w s l) (ht : Reads w t l) (hl : l.length ≤ 140737488355328) :
    Calls Try.prog 22 #[s, t] w fun e w' => e = .returned (.bool true) ∧ ∃ q, w' = w.drewN q := by
  obtain ⟨ao, c, hf⟩ := hs.form
  obtain ⟨ao', c', hf'⟩ := ht.form
  subst hf hf'
  have HS := hid hs
  have HT := hid ht
  clear hs ht
  have hne : ((l.length : Int) != (l.length : Int)) = false := by simp
  go_enter Try.func22, Try.ntmps22
  go_wp2
  go_loopw [5, 13] (fun _ iv wr => ∃ (k q : Nat), k ≤ l.length ∧ iv = .int .i64 (k : Int) ∧ w.drewN q = wr) (fun _ iv _ => l.length - (intOf iv).toNat)
  case atStart => exact ⟨0, 0, by omega, rfl, rfl⟩
  case round =>
    obtain ⟨k, q, hk, rfl, rfl⟩ := hrel
    by_cases hlt : k < l.length
    · obtain ⟨g, o, rfl, h1⟩ := HS.out.at_u8 k hlt
      obtain ⟨g', o', rfl, h2⟩ := HT.out.at_u8 k hlt
      generalize (l.getD k 0).toNat = x at *
      have hb : ((x : Int) != (x : Int)) = false := by simp
      go_wp2
      go_region
      go_wp2
      go_roundw
      case rel => exact ⟨k + 1, q + 1, by omega, by go_num, by rfl⟩
      case measure => simp [intOf]; omega
    · go_wp2
      go_ret
      exact ⟨rfl, q, rfl⟩

end Go.Proofs.Ytaomhahmpbfjhaa

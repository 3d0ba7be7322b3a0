import Derived.Test.YthjoppgomopkfaaRing2
namespace Go.Proofs.Ythjoppgomopkfaa
open Go.RowKit
set_option linter.unusedVariables false

theorem below2 {a b c : World} (h : Below a.heap.size a b) (k : Below b.heap.size b c) : Below a.heap.size a c :=
  ⟨k.os.trans h.os, k.tape.trans h.tape, k.output.trans h.output, Nat.le_trans h.size k.size, fun i hi => (k.block i (Nat.lt_of_lt_of_le hi h.size)).trans (h.block i hi)⟩

/-- A log's block. -/
abbrev headV (b o h n : Nat) : List Value := [.int .i64 (b : Int), .int .i64 (o : Int), .slice (some ⟨h, 0, none⟩) n n]
def HeadAt (w : World) (g b o h n : Nat) : Prop := w.heap[g]? = some (.cells (headV b o h n).toArray 65 (0, 0))
theorem HeadAt.c0 {w : World} {g b o h n : Nat} (hd : HeadAt w g b o h n) : w.cell? ⟨g, 0, none⟩ = some (.int .i64 (b : Int)) := by rw [cell_at hd]; rfl
theorem HeadAt.c1 {w : World} {g b o h n : Nat} (hd : HeadAt w g b o h n) : w.cell? ⟨g, 1, none⟩ = some (.int .i64 (o : Int)) := by rw [cell_at hd]; rfl
theorem HeadAt.c2 {w : World} {g b o h n : Nat} (hd : HeadAt w g b o h n) : w.cell? ⟨g, 2, none⟩ = some (.slice (some ⟨h, 0, none⟩) n n) := by rw [cell_at hd]; rfl
theorem HeadAt.later {w w' : World} {g b o h n : Nat} (hd : HeadAt w g b o h n) (hb : Below w.heap.size w w') : HeadAt w' g b o h n := (hb.block g (Array.getElem?_eq_some_iff.1 hd).1).trans hd

theorem base_any {w : World} {g b o h n : Nat} (hd : HeadAt w g b o h n) : Calls Try.prog 10 #[.pointer (some ⟨g, 0, none⟩)] w fun e w' => e = .returned (.int .i64 (b : Int)) ∧ w' = w := by
  have c0 := hd.c0
  clear hd
  go_enter Try.func10, Try.ntmps10
  go_wp2
  go_ret
  exact ⟨rfl, rfl⟩
theorem op_any {w : World} {g b o h n : Nat} (hd : HeadAt w g b o h n) : Calls Try.prog 11 #[.pointer (some ⟨g, 0, none⟩)] w fun e w' => e = .returned (.int .i64 (o : Int)) ∧ w' = w := by
  have c0 := hd.c1
  clear hd
  go_enter Try.func11, Try.ntmps11
  go_wp2
  go_ret
  exact ⟨rfl, rfl⟩
theorem many_any {w : World} {g b o h n : Nat} (hd : HeadAt w g b o h n) (hbo : b ≤ o) (ho : o ≤ 1099511627776) : Calls Try.prog 38 #[.pointer (some ⟨g, 0, none⟩)] w fun e w' => e = .returned (.int .i64 ((o - b : Nat) : Int)) ∧ Below w.heap.size w w' := by
  have c0 := hd.c0
  have c1 := hd.c1
  clear hd
  go_enter Try.func38, Try.ntmps38
  go_upto_region 1 with fail
  go_quiet (fail)
  go_wp2
  go_ret
  exact ⟨by go_num, bdN w _⟩
set_option maxRecDepth 1000000 in
theorem Room_any {w : World} {g b o h n : Nat} (hd : HeadAt w g b o h n) (hbo : b ≤ o) (ho : o ≤ 1099511627776) (hn : n ≤ 64) (hr : o - b ≤ n) : Calls Try.prog 13 #[.pointer (some ⟨g, 0, none⟩)] w fun e w' => e = .returned (.int .i64 ((n - (o - b) : Nat) : Int)) ∧ Below w.heap.size w w' := by
  have c2 := hd.c2
  have H1 := hid (room_any (w := w) (some ⟨h, 0, none⟩) n n)
  have H2 := hid (fun w' (hb : Below w.heap.size w w') => many_any (hd.later hb) hbo ho)
  clear hd
  go_enter Try.func13, Try.ntmps13
  go_wp2_with fail
  refine H1.out.mono ?_
  rintro e w1 ⟨rfl, hb⟩
  go_wp2_with fail
  refine (H2.out _ hb).mono ?_
  rintro e w2 ⟨rfl, hb2⟩
  generalize hq : o - b = q at *
  go_wp2
  go_ret
  exact ⟨by go_num, below2 hb hb2⟩
theorem has_any {w : World} {g b o h n : Nat} (hd : HeadAt w g b o h n) (k : Int) : Calls Try.prog 42 #[.pointer (some ⟨g, 0, none⟩), .int .i64 k] w fun e w' => e = .returned (.bool (decide ((b : Int) < k ∧ k ≤ (o : Int)))) ∧ w' = w := by
  have c0 := hd.c0
  have c1 := hd.c1
  clear hd
  go_enter Try.func42, Try.ntmps42
  by_cases h1 : (b : Int) < k
  · have e1 : decide ((b : Int) < k) = true := decide_eq_true h1
    go_wp2
    go_ret
    exact ⟨by simp [h1], rfl⟩
  · have e1 : decide ((b : Int) < k) = false := decide_eq_false h1
    go_wp2
    go_ret
    exact ⟨by simp, rfl⟩
theorem All.cba {a b c : Comp} {cs : List Comp} {w : World} (h : All (a :: b :: c :: cs) w) : All (c :: b :: a :: cs) w :=
  h.perm ((List.Perm.swap _ _ _).trans ((List.Perm.cons _ (List.Perm.swap _ _ _)).trans (List.Perm.swap _ _ _)))
theorem All.cab {a b c : Comp} {cs : List Comp} {w : World} (h : All (a :: b :: c :: cs) w) : All (c :: a :: b :: cs) w :=
  h.perm ((List.Perm.cons _ (List.Perm.swap _ _ _)).trans (List.Perm.swap _ _ _))
theorem All.bca {a b c : Comp} {cs : List Comp} {w : World} (h : All (a :: b :: c :: cs) w) : All (b :: c :: a :: cs) w :=
  h.perm ((List.Perm.swap _ _ _).trans (List.Perm.cons _ (List.Perm.swap _ _ _)))
/-- A log, as parts. -/
def logP (g h b o n : Nat) (ps : List Ent) : List Comp := [blkC g (headV b o h n) 65, blkC h (flatE ps) 39]
theorem All.head {g h b o n : Nat} {ps : List Ent} {cs : List Comp} {w : World} (hA : All (logP g h b o n ps ++ cs) w) : HeadAt w g b o h n := hA.1.2.1

set_option maxRecDepth 1000000 in
set_option maxHeartbeats 400000 in
theorem lay_any {g h b o n : Nat} {ps : List Ent} {cs : List Comp} {w : World} (hA : All (logP g h b o n ps ++ cs) w) (hl : ps.length = n) (hn : 0 < n) (hn' : n ≤ 64) (ho : o < 1099511627776) (x : Ent) : Calls Try.prog 39 #[.pointer (some ⟨g, 0, none⟩), x.V] w fun e w' => e = .returned (.tuple #[]) ∧ All (logP g h b (o + 1) n (ps.set ((o + 1) % n) x) ++ cs) w' := by
  have hg : g < w.heap.size := (Array.getElem?_eq_some_iff.1 hA.head).1
  have A1 : Hid (All (blkC w.heap.size x.cells 39 :: (logP g h b (o + 1) n ps ++ cs)) ((w.setCell ⟨g, 1, none⟩ (.int .i64 ((o + 1 : Nat) : Int))).alloc (.cells x.cells.toArray 39))) := hid (by
    have h1 : All (logP g h b (o + 1) n ps ++ cs) (w.setCell ⟨g, 1, none⟩ (.int .i64 ((o + 1 : Nat) : Int))) := hA.setBlk 1 (.int .i64 ((o + 1 : Nat) : Int))
    have h2 := h1.addBlk x.cells 39
    have e : (w.setCell ⟨g, 1, none⟩ (.int .i64 ((o + 1 : Nat) : Int))).heap.size = w.heap.size := by simp [World.setCell]
    rw [e] at h2
    exact h2)
  have c1 := hA.head.c1
  have f1 := free_at hA.head 1
  have F : Hid (∀ W, All (blkC w.heap.size x.cells 39 :: (logP g h b (o + 1) n ps ++ cs)) W → entAt W w.heap.size 0 x ∧ HeadAt W g b (o + 1) h n) := hid (fun W A => ⟨entAt_of (range_one A.1.2.1), A.tail.head⟩)
  have HP : Hid (∀ W, All (blkC w.heap.size x.cells 39 :: (logP g h b (o + 1) n ps ++ cs)) W → Calls Try.prog 47 #[.agg #[.slice (some ⟨h, 0, none⟩) n n], .int .i64 ((o + 1 : Nat) : Int), x.V] W fun e w' => e = .returned (.tuple #[]) ∧ All (blkC w.heap.size x.cells 39 :: (logP g h b (o + 1) n (ps.set ((o + 1) % n) x) ++ cs)) w') := hid (fun W A => (put_any A.cba hl hn hn' (by omega) x).mono (fun e w' ⟨e1, A'⟩ => ⟨e1, A'.cba⟩))
  have n1 : g ≠ w.heap.size := by omega
  have n2 : w.heap.size ≠ g := by omega
  clear hA
  go_enter Try.func39, Try.ntmps39
  go_upto_region 2 with fail
  have eW : ((w.setCell ⟨g, 1, none⟩ (.int .i64 ((o : Int) + 1))).alloc (.cells #[.int .i64 x.c, .int .i64 x.n, .int .i64 x.k, .string x.nm, .string x.tx, .int .i64 x.m, .int .i64 x.q] 39)) = ((w.setCell ⟨g, 1, none⟩ (.int .i64 ((o + 1 : Nat) : Int))).alloc (.cells x.cells.toArray 39)) := rfl
  rw [eW]
  generalize ((w.setCell ⟨g, 1, none⟩ (.int .i64 ((o + 1 : Nat) : Int))).alloc (.cells x.cells.toArray 39)) = w1 at *
  generalize w.heap.size = K at *
  generalize hq : o + 1 = q at *
  obtain ⟨⟨s1, s2, s3, s4, s5, s6, s7⟩, hd⟩ := F.out _ A1.out
  have d1 := hd.c1
  have d2 := hd.c2
  clear eW c1 f1 hd
  go_region_held3 (fun W => W.cell? ⟨g, 2, none⟩ = some (.slice (some ⟨h, 0, none⟩) n n) ∧ W.cell? ⟨g, 1, none⟩ = some (.int .i64 (q : Int)) ∧ W.cell? ⟨K, 0, none⟩ = some (.int .i64 x.c) ∧ W.cell? ⟨K, 1, none⟩ = some (.int .i64 x.n) ∧ W.cell? ⟨K, 2, none⟩ = some (.int .i64 x.k) ∧ W.cell? ⟨K, 3, none⟩ = some (.string x.nm) ∧ W.cell? ⟨K, 4, none⟩ = some (.string x.tx) ∧ W.cell? ⟨K, 5, none⟩ = some (.int .i64 x.m) ∧ W.cell? ⟨K, 6, none⟩ = some (.int .i64 x.q)) (go_keep) (first | (go_at_call 47; refine (HP.out _ A1.out.drew).mono ?_; rintro e w2 ⟨rfl, A2⟩; have A2 := hid A2; obtain ⟨⟨s1, s2, s3, s4, s5, s6, s7⟩, hd⟩ := (show entAt w2 K 0 x ∧ HeadAt w2 g b q h n from ⟨entAt_of (range_one A2.out.1.2.1), A2.out.tail.head⟩); have d1 := hd.c1; have d2 := hd.c2; clear hd))
  clear s1 s2 s3 s4 s5 s6 s7 d1 d2
  go_wp2
  go_end0
  subst hq
  exact ⟨rfl, A2.out.tail⟩
end Go.Proofs.Ythjoppgomopkfaa

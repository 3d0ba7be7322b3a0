import Derived.Test.YtkcepkehgkkkbabDoorDoneB
namespace Go.Proofs.YtkcepkehgkkkbabDoor
open Go.RowKit
set_option linter.unusedVariables false

section
variable {w0 w w' : World} {pre cs : List Comp} {k : Int} {nm tx : ByteArray} {n m : Int}
theorem Begun.handed2 (h : Begun w0 w pre cs k nm tx n m) : All (pre ++ ([blkC (w0.heap.size + 1) [.int .i64 0, .int .i64 0, .slice none 0 0] 30, blkC w0.heap.size [.int .i64 k, .string nm, .string tx, .int .i64 n, .int .i64 m] 35] ++ cs)) w := by
  have h1 := h.all
  refine h1.perm ?_
  have : ([blkC (w0.heap.size + 1) [.int .i64 0, .int .i64 0, .slice none 0 0] 30, blkC w0.heap.size [.int .i64 k, .string nm, .string tx, .int .i64 n, .int .i64 m] 35] ++ pre ++ cs).Perm (pre ++ [blkC (w0.heap.size + 1) [.int .i64 0, .int .i64 0, .slice none 0 0] 30, blkC w0.heap.size [.int .i64 k, .string nm, .string tx, .int .i64 n, .int .i64 m] 35] ++ cs) := List.perm_append_comm.append_right cs
  simpa using this
theorem handed_back2 {a b : Comp} {post : List Comp} (h : All (post ++ ([a, b] ++ cs)) w) : All (a :: b :: (post ++ cs)) w := by
  refine h.perm ?_
  have : (post ++ [a, b] ++ cs).Perm ([a, b] ++ post ++ cs) := List.perm_append_comm.append_right cs
  simpa using this
end

/-- The table of forms as a part. -/
def tabC : Comp := ⟨Tab, [0]⟩
theorem tabC_good : tabC.Good := by
  intro w w' h hl hk
  have h0 : w'.heap[0]? = w.heap[0]? := hk 0 (by simp [tabC])
  refine ⟨Nat.lt_of_lt_of_le h.lt hl.size, fun i hi => ?_⟩
  have := h.cell i hi
  simp only [World.cell?, h0] at this ⊢
  exact this

/-- What Check tells of a kind that may be. -/
def chkT (k : Nat) (s t n m : Int) : Int := chkR (formN.getD (k * 8) 0) (formN.getD (k * 8 + 1) 0) (formN.getD (k * 8 + 2) 0) (formN.getD (k * 8 + 3) 0) (formN.getD (k * 8 + 4) 0) (formN.getD (k * 8 + 5) 0) (formN.getD (k * 8 + 6) 0) (formN.getD (k * 8 + 7) 0) s t n m

theorem check_tab {w : World} (h : Tab w) (k : Nat) (h1 : 1 ≤ k) (h8 : k ≤ 8) (nm tx : ByteArray) (n m : Int) : Calls Tryd.prog 11 #[opV k nm tx n m] w fun e w' => e = .returned (.int .i64 (chkT k nm.size tx.size n m)) ∧ Below w.heap.size w w' :=
  check_row k h1 h8 nm tx n m _ _ _ _ _ _ _ _ (h.cell _ (by omega)) (h.cell _ (by omega)) (h.cell _ (by omega)) (h.cell _ (by omega)) (h.cell _ (by omega)) (h.cell _ (by omega)) (h.cell _ (by omega)) (h.cell _ (by omega)) h.lt

set_option maxHeartbeats 3200000 in
set_option maxRecDepth 1000000 in
theorem Do_of {P : Nat} {pre cs : List Comp} {w : World} (ht : ∀ w', All (pre ++ cs) w' → Tab w') (k : Nat) (h1 : 1 ≤ k) (h8 : k ≤ 8) (nm tx : ByteArray) (n m : Int) (hk : chkT k nm.size tx.size n m = 0) {j : Int} {G : Int → Int → Value → List Comp → Prop}
    (hc : ∀ (cs' : List Comp) (w' : World), All (pre ++ cs') w' → Calls Tryd.prog 19 #[.pointer (some ⟨P, 0, none⟩), opV k nm tx n m] w' fun e w'' => ∃ c x so sn sc post, e = .returned (.tuple #[resV c x (.slice so sn sc), .int .i64 j]) ∧ G c x (.slice so sn sc) post ∧ All (post ++ cs') w'')
    (h : All (pre ++ cs) w) :
    Calls Tryd.prog 10 #[.pointer (some ⟨P, 0, none⟩), opV k nm tx n m] w fun e w'' => ∃ c x so sn sc post, e = .returned (.tuple #[resV c x (.slice so sn sc), .int .i64 j, .int .i64 0]) ∧ G c x (.slice so sn sc) post ∧ All (post ++ cs) w'' := by
  have T := hid (done_start h nm tx n m k)
  have HC := hid hc
  have HK := hid hk
  have hT : Tab ((w.alloc (opB k nm tx n m)).alloc (.cells #[.int .i64 0, .int .i64 0, .slice none 0 0] 30)) := ht _ T.out.all.tail.tail
  have HT := hid hT
  clear h hc hk hT
  go_enter Tryd.func10, Tryd.ntmps10
  go_wp2_with fail
  refine (check_tab HT.out k h1 h8 nm tx n m).mono ?_
  rw [HK.out]
  rintro e w2 ⟨rfl, B2⟩
  have T2 := hid (T.out.next B2)
  clear B2 T HT
  have o0 := T2.out.o0
  have o1 := T2.out.o1
  have o2 := T2.out.o2
  have o3 := T2.out.o3
  have o4 := T2.out.o4
  go_wp2_with fail
  refine (HC.out _ _ T2.out.handed2).mono ?_
  rintro e w5 ⟨c, x, so, sn, sc, post, rfl, hG, A5⟩
  have A6 := hid (handed_back2 A5)
  have HG := hid hG
  clear A5 hG T2 o0 o1 o2 o3 o4
  have A7 := hid ((A6.out.setR (.int .i64 c) (.int .i64 x) (.slice so sn sc)).alloc (.cells #[.int .i64 c, .int .i64 x, .slice so sn sc] 30))
  have hR : w.heap.size + 1 < w5.heap.size := A6.out.1.2.2 _ (by simp [blkC])
  have r0 := A6.out.r0
  have r1 := A6.out.r1
  have r2 := A6.out.r2
  have g0 := A6.out.rf 0
  have g1 := A6.out.rf 1
  have g2 := A6.out.rf 2
  clear A6
  go_wp2
  generalize (((w5.setCell ⟨w.heap.size + 1, 0, none⟩ (.int .i64 c)).setCell ⟨w.heap.size + 1, 1, none⟩ (.int .i64 x)).setCell ⟨w.heap.size + 1, 2, none⟩ (.slice so sn sc)).alloc (.cells #[.int .i64 c, .int .i64 x, .slice so sn sc] 30) = w6 at A7 ⊢
  clear r0 r1 r2
  have r0 := A7.out.r0
  have r1 := A7.out.r1
  have r2 := A7.out.r2
  refine bodyPost_ret (v := .tuple #[resV c x (.slice so sn sc), .int .i64 j, .int .i64 0]) (by simp only [results, Tryd.f10]; go_simp) rfl ?_
  exact ⟨c, x, so, sn, sc, post, rfl, HG.out, A7.out.tail.tail⟩
end Go.Proofs.YtkcepkehgkkkbabDoor

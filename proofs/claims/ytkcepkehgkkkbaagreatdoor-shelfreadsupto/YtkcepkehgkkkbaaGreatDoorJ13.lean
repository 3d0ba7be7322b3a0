import Derived.Test.YtkcepkehgkkkbaaGreatDoorJ12
import Derived.Test.YtkcepkehgkkkbaaGreatDoorJ11
namespace Go.Proofs.YtkcepkehgkkkbaaGreatDoor
open Go.RowKit
set_option linter.unusedVariables false
attribute [local go_sem] run_store_func run_store_nilf

set_option maxHeartbeats 3200000 in
set_option maxRecDepth 1000000 in
theorem done_5 {P : Nat} {qs : List Qv} {pre cs : List Comp} {w : World} (hm : blkC P (flat qs) 122 ∈ pre) (h8 : qs.length = 8) (nm tx : ByteArray) (n m : Int) (hN : findN qs nm ≠ -1) {j : Int} {G : Int → Int → Value → List Comp → Prop}
    (hc : ∀ (cs' : List Comp) (w' : World), All (pre ++ cs') w' → Calls Tryz.prog 136 #[.pointer (some ⟨P, 0, none⟩), .int .i64 (findN qs nm), opV 5 nm tx n m] w' fun e w'' => ∃ c x so sn sc post, e = .returned (.tuple #[resV c x (.slice so sn sc), .int .i64 j]) ∧ G c x (.slice so sn sc) post ∧ All (post ++ cs') w'')
    (h : All (pre ++ cs) w) :
    Calls Tryz.prog 86 #[.pointer (some ⟨P, 0, none⟩), opV 5 nm tx n m] w fun e w'' => ∃ c x so sn sc post, e = .returned (.tuple #[resV c x (.slice so sn sc), .int .i64 j]) ∧ G c x (.slice so sn sc) post ∧ All (post ++ cs) w'' := by
  have T := hid (done_start h nm tx n m 5)
  have HC := hid hc
  have HM := hid hm
  have hP : P < w.heap.size := (h.mem (List.mem_append_left _ hm)).2.2 P (by simp [blkC])
  have eN : (findN qs nm == -1) = false := by rw [beq_eq_false_iff_ne]; exact hN
  clear h hc hm
  generalize hW : (w.alloc (opB 5 nm tx n m)).alloc (.cells #[.int .i64 0, .int .i64 0, .slice none 0 0] 41) = w1 at T
  have o0 := T.out.o0
  have o1 := T.out.o1
  have hz1 := T.out.lt
  have hz2 := Nat.lt_of_succ_lt hz1
  have hix : ∀ W : World, (Instr.index 171 deedsV (.int .i64 5)).run Tryz.prog W = .ok (.agg #[fnV 136, .bool true]) W := fun W => by kernel_rfl
  have F1 := hid (find_any (w := w1.drew) (T.out.blk HM.out) h8 nm)
  have F2 := hid (find_any (w := (w1.alloc (.cells #[.nilFunc, .bool false] 170)).drew) ((T.out.next (ba _ _)).blk HM.out) h8 nm)
  have D1 := hid (deeds_1 (T.out.next (bd w1)) HM.out)
  have D2 := hid (deeds_2 T.out HM.out)
  go_enter Tryz.func86, Tryz.ntmps86
  go_upto_region 1 with fail
  go_cut [6, 7] from 8 to 15 (fun dv fv wx => ∃ b, dv = .pointer (some ⟨b, 0, none⟩) ∧ fv = .int .i64 (findN qs nm) ∧ Hid (Begun w wx (blkC b [fnV 136, .bool true] 170 :: pre) cs 5 nm tx n m))
  case first =>
   go_region_law (go_simp; first | (go_at_call 116; refine D1.out.mono ?_; rintro e w3 ⟨rfl, T3, hlt3, hlt4, s0, s1, F3, F4⟩) | (go_at_call 116; refine D2.out.mono ?_; rintro e w3 ⟨rfl, T3, hlt3, hlt4, s0, s1, F3, q0, q1, z0, z1⟩) | (go_at_call 83; refine F1.out.mono ?_; rintro e w4 ⟨rfl, hw4⟩; subst hw4) | (go_at_call 83; refine F2.out.mono ?_; rintro e w4 ⟨rfl, hw4⟩; subst hw4) | (go_at_call 83; refine (F3.out h8 nm).mono ?_; rintro e w4 ⟨rfl, hw4⟩; subst hw4) | (go_at_call 83; refine (F4.out h8 nm).mono ?_; rintro e w4 ⟨rfl, hw4⟩; subst hw4))
   all_goals (go_wp2_with fail; go_meet)
   all_goals first | exact ⟨_, rfl, rfl, begun_a T3.out⟩ | exact ⟨_, rfl, rfl, begun_b T3.out⟩ | skip
  case rest =>
  obtain ⟨b, rfl, rfl, TB⟩ := hcut
  clear F1 F2 D1 D2 hix hW o0 o1 T hz1 hz2
  have b0 := TB.out.b0
  have b1 := TB.out.b1
  have o0 := TB.out.o0
  have o1 := TB.out.o1
  have o2 := TB.out.o2
  have o3 := TB.out.o3
  have o4 := TB.out.o4
  go_wp2_with fail
  refine (HC.out _ _ TB.out.handed).mono ?_
  rintro e w5 ⟨c, x, so, sn, sc, post, rfl, hG, A5⟩
  have A6 := hid (handed_back A5)
  have HG := hid hG
  clear A5 hG TB b0 b1 o0 o1 o2 o3 o4
  have r0 := A6.out.r0
  have r1 := A6.out.r1
  have r2 := A6.out.r2
  have g0 := A6.out.rf 0
  have g1 := A6.out.rf 1
  have g2 := A6.out.rf 2
  have A8 := hid (A6.out.setR (.int .i64 c) (.int .i64 x) (.slice so sn sc))
  clear A6
  go_wp2
  generalize (((w5.setCell ⟨w.heap.size + 1, 0, none⟩ (.int .i64 c)).setCell ⟨w.heap.size + 1, 1, none⟩ (.int .i64 x)).setCell ⟨w.heap.size + 1, 2, none⟩ (.slice so sn sc)) = w6 at A8 ⊢
  clear r0 r1 r2
  have r0 := A8.out.r0
  have r1 := A8.out.r1
  have r2 := A8.out.r2
  refine bodyPost_ret (v := .tuple #[resV c x (.slice so sn sc), .int .i64 j]) (by rw [results_cell_tmp (fn := Tryz.f86) (p := 4) (u := 5) (ty := 41) rfl]; go_simp) rfl ?_
  exact ⟨c, x, so, sn, sc, post, rfl, HG.out, A8.out.tail.tail.tail⟩
end Go.Proofs.YtkcepkehgkkkbaaGreatDoor

namespace Go.Proofs.YtkcepkehgkkkbaaGreatDoor
open Go.RowKit
set_option linter.unusedVariables false

abbrev sA : ByteArray := ⟨#[97]⟩
abbrev sX : ByteArray := ⟨#[120]⟩
abbrev sG : ByteArray := ⟨#[103]⟩
abbrev zeroQ : List Qv := [noQ, noQ, noQ, noQ, noQ, noQ, noQ, noQ]

theorem find_z : findN zeroQ sA = -1 := by kernel_rfl
theorem find_e : findN zeroQ ⟨#[]⟩ = 0 := by kernel_rfl
theorem find_a (b : Nat) (iv : Value) : findN (zeroQ.set 0 ⟨sA, 0, iv, .map (some b)⟩) sA = 0 := by
  exact findN_at (k := 0) (q := ⟨sA, 0, iv, .map (some b)⟩) rfl (beq_self_eq_true _) (fun j p hj => absurd hj (by omega))

abbrev mapG : DataW Unit := (DataW.map []).put (.string [103]) (.lit (.int .i64 1))
abbrev GMake (P : Nat) : Int → Int → Value → List Comp → Prop := fun c x s post => c = 0 ∧ x = 0 ∧ s = .slice none 0 0 ∧ ∃ b, post = [blkC P (flat (zeroQ.set 0 ⟨sA, 0, .slice none 0 0, .map (some b)⟩)) 122, mapC b 0 (.map [])]
abbrev GPush (P b : Nat) : Int → Int → Value → List Comp → Prop := fun c x s post => c = 0 ∧ x = 0 ∧ s = .slice none 0 0 ∧ ∃ iv, post = [blkC P (flat (zeroQ.set 0 ⟨sA, 0, iv, .map (some b)⟩)) 122, ownC 9 iv (txtV [sX])]
abbrev GTake (P b : Nat) (iv : Value) : Int → Int → Value → List Comp → Prop := fun c x s post => c = 0 ∧ x = 0 ∧ ∃ so, s = .slice so 1 1 ∧ post = [blkC P (flat (zeroQ.set 0 ⟨sA, 0, iv, .map (some b)⟩)) 122, ownC 9 iv (txtV [sX]), mapC b 1 mapG, ownC 9 (.slice so 1 1) (txtV [sX])]

/-- A shelf to which 'a' was made. -/
theorem do_make {P : Nat} {cs : List Comp} {w : World} (ht : ∀ w', All ([blkC P zero32 122] ++ cs) w' → Tab w') (h : All ([blkC P zero32 122] ++ cs) w) :
    Calls Tryz.prog 44 #[.pointer (some ⟨P, 0, none⟩), opV (1 : Nat) sA ⟨#[]⟩ 0 0] w fun e w'' => ∃ b, e = .returned (.tuple #[resV 0 0 (.slice none 0 0), .int .i64 0, .int .i64 0]) ∧ All (blkC P (flat (zeroQ.set 0 ⟨sA, 0, .slice none 0 0, .map (some b)⟩)) 122 :: mapC b 0 (.map []) :: cs) w'' := by
  have D := Do_of (P := P) (j := 0) (G := GMake P) ht 1 (by omega) (by omega) sA ⟨#[]⟩ 0 0 (by decide +kernel)
    (fun cs' w' h' => done_1 (P := P) (j := 0) (G := GMake P) (qs := zeroQ) (pre := [blkC P zero32 122]) List.mem_cons_self rfl sA ⟨#[]⟩ 0 0 (fun cs2 w2 h2 => by
      rw [find_z]
      refine (make_new (f := 0) (q := noQ) h2 rfl find_e rfl 1 sA ⟨#[]⟩ 0 0).mono ?_
      rintro e w3 ⟨b, rfl, A⟩
      exact ⟨0, 0, none, 0, 0, [blkC P (flat (zeroQ.set 0 ⟨sA, 0, .slice none 0 0, .map (some b)⟩)) 122, mapC b 0 (.map [])], rfl, ⟨rfl, rfl, rfl, b, rfl⟩, A⟩) h') h
  refine D.mono ?_
  rintro e w'' ⟨c, x, so, sn, sc, post, rfl, ⟨rfl, rfl, hs, b, rfl⟩, A⟩
  rw [hs]
  exact ⟨b, rfl, A⟩

/-- 'x' is pushed on it. -/
theorem do_push {P b : Nat} {cs : List Comp} {w : World} (ht : ∀ w', All ([blkC P (flat (zeroQ.set 0 ⟨sA, 0, .slice none 0 0, .map (some b)⟩)) 122, ownC 9 (.slice none 0 0) (txtV [])] ++ cs) w' → Tab w') (h : All ([blkC P (flat (zeroQ.set 0 ⟨sA, 0, .slice none 0 0, .map (some b)⟩)) 122, ownC 9 (.slice none 0 0) (txtV [])] ++ cs) w) :
    Calls Tryz.prog 44 #[.pointer (some ⟨P, 0, none⟩), opV (3 : Nat) sA sX 0 0] w fun e w'' => ∃ iv, e = .returned (.tuple #[resV 0 0 (.slice none 0 0), .int .i64 0, .int .i64 0]) ∧ All (blkC P (flat (zeroQ.set 0 ⟨sA, 0, iv, .map (some b)⟩)) 122 :: ownC 9 iv (txtV [sX]) :: cs) w'' := by
  have D := Do_of (P := P) (j := 0) (G := GPush P b) ht 3 (by omega) (by omega) sA sX 0 0 (by decide +kernel)
    (fun cs' w' h' => done_3 (P := P) (j := 0) (G := GPush P b) (qs := zeroQ.set 0 ⟨sA, 0, .slice none 0 0, .map (some b)⟩) (pre := [blkC P (flat (zeroQ.set 0 ⟨sA, 0, .slice none 0 0, .map (some b)⟩)) 122, ownC 9 (.slice none 0 0) (txtV [])]) List.mem_cons_self rfl sA sX 0 0 (by rw [find_a]; omega) (fun cs2 w2 h2 => by
      rw [find_a]
      refine (push_ok (i := 0) (q := ⟨sA, 0, .slice none 0 0, .map (some b)⟩) (items := []) h2 rfl rfl (by simp) (by simp) (by simp) 3 sA sX 0 0).mono ?_
      rintro e w3 ⟨iv, rfl, A⟩
      exact ⟨0, 0, none, 0, 0, [blkC P (flat (zeroQ.set 0 ⟨sA, 0, iv, .map (some b)⟩)) 122, ownC 9 iv (txtV [sX])], rfl, ⟨rfl, rfl, rfl, iv, rfl⟩, A⟩) h') h
  refine D.mono ?_
  rintro e w'' ⟨c, x, so, sn, sc, post, rfl, ⟨rfl, rfl, hs, iv, rfl⟩, A⟩
  rw [hs]
  exact ⟨iv, rfl, A⟩


/-- 'g' takes it. -/
theorem do_take {P b : Nat} {iv : Value} {cs : List Comp} {w : World} (ht : ∀ w', All ([blkC P (flat (zeroQ.set 0 ⟨sA, 0, iv, .map (some b)⟩)) 122, ownC 9 iv (txtV [sX]), mapC b 0 (.map [])] ++ cs) w' → Tab w') (h : All ([blkC P (flat (zeroQ.set 0 ⟨sA, 0, iv, .map (some b)⟩)) 122, ownC 9 iv (txtV [sX]), mapC b 0 (.map [])] ++ cs) w) :
    Calls Tryz.prog 44 #[.pointer (some ⟨P, 0, none⟩), opV (5 : Nat) sA sG 0 0] w fun e w'' => ∃ so, e = .returned (.tuple #[resV 0 0 (.slice so 1 1), .int .i64 0, .int .i64 0]) ∧ All (blkC P (flat (zeroQ.set 0 ⟨sA, 0, iv, .map (some b)⟩)) 122 :: ownC 9 iv (txtV [sX]) :: mapC b 1 mapG :: ownC 9 (.slice so 1 1) (txtV [sX]) :: cs) w'' := by
  have D := Do_of (P := P) (j := 0) (G := GTake P b iv) ht 5 (by omega) (by omega) sA sG 0 0 (by decide +kernel)
    (fun cs' w' h' => done_5 (P := P) (j := 0) (G := GTake P b iv) (qs := zeroQ.set 0 ⟨sA, 0, iv, .map (some b)⟩) (pre := [blkC P (flat (zeroQ.set 0 ⟨sA, 0, iv, .map (some b)⟩)) 122, ownC 9 iv (txtV [sX]), mapC b 0 (.map [])]) List.mem_cons_self rfl sA sG 0 0 (by rw [find_a]; omega) (fun cs2 w2 h2 => by
      rw [find_a]
      refine (take_new (i := 0) (nm0 := sA) (first := 0) (item := sX) (items := []) h2 rfl rfl (by simp) (by simp) (by simp) 5 sA sG 0 0 (by decide +kernel) (by kernel_rfl) (by decide +kernel) (by omega)).mono ?_
      rintro e w3 ⟨so, rfl, A⟩
      exact ⟨0, 0, so, 1, 1, [blkC P (flat (zeroQ.set 0 ⟨sA, 0, iv, .map (some b)⟩)) 122, ownC 9 iv (txtV [sX]), mapC b 1 mapG, ownC 9 (.slice so 1 1) (txtV [sX])], rfl, ⟨rfl, rfl, so, rfl, rfl⟩, A⟩) h') h
  refine D.mono ?_
  rintro e w'' ⟨c, x, so, sn, sc, post, rfl, ⟨rfl, rfl, so', hs, rfl⟩, A⟩
  rw [hs]
  exact ⟨so', rfl, A⟩
end Go.Proofs.YtkcepkehgkkkbaaGreatDoor

namespace Go.Proofs.YtkcepkehgkkkbaaGreatDoor
open Go.RowKit
set_option linter.unusedVariables false

theorem tab_in {w w' : World} {cs : List Comp} (hT : Tab w) (h : All cs w') (hm : inC w ∈ cs) : Tab w' := hT.below (h.into hm)

theorem mapG_has (x : List UInt8) : Maps.has mapG (.string x) = true ↔ x = [103] := by
  by_cases e : x = [103]
  · subst e
    exact ⟨fun _ => rfl, fun _ => by kernel_rfl⟩
  · have : Maps.has mapG (.string x) = false := by
      rw [Maps.has_put_other (by intro h; injection h with h; exact e h)]
      rfl
    simp [this, e]
theorem mapG_left : leftD mapG (.string [103]) = (1 : Nat) := by kernel_rfl
theorem mapG_size : Maps.size mapG = 1 := by kernel_rfl
theorem slot_ex : slotB sA 0 [sX] [([103], ((1 : Nat) : Int))] = [1, 97, 0, 1, 1, 120, 1, 1, 103, 1] := by kernel_rfl

set_option maxHeartbeats 3200000 in
set_option maxRecDepth 1000000 in
theorem shown_any {w : World} (hT : Tab w) : Calls Tryz.prog 6 #[] w fun e w' => e = .returned (.bool true) ∧ Below w.heap.size w w' := by
  have HT := hid hT
  clear hT
  go_enter Tryz.func6, Tryz.ntmps6
  go_wp2_with fail
  refine (New_any (All.came w)).mono ?_
  rintro e w1 ⟨P, rfl, A1, _, _⟩
  have A1 := hid A1
  go_wp2_with fail
  refine (do_make (P := P) (cs := [inC w]) (fun w' h => tab_in HT.out h mem2) A1.out).mono ?_
  rintro e w2 ⟨b, rfl, A2⟩
  have A2 := hid (A2.addBlk [.int .i64 0, .int .i64 0, .slice none 0 0] 41)
  clear A1
  generalize hX : w2.heap.size = X at A2
  go_wp2_with fail
  have A3 := hid ((A2.out.addNil (e := 9)).perm (ds := [blkC P (flat (zeroQ.set 0 ⟨sA, 0, .slice none 0 0, .map (some b)⟩)) 122, ownC 9 (.slice none 0 0) (txtV [])] ++ [blkC X [.int .i64 0, .int .i64 0, .slice none 0 0] 41, mapC b 0 (.map []), inC w]) (List.perm_middle (l₁ := [ownC 9 (.slice none 0 0) [], blkC X [.int .i64 0, .int .i64 0, .slice none 0 0] 41])))
  refine (do_push (P := P) (fun w' h => tab_in HT.out h (by simp)) A3.out).mono ?_
  rintro e w3 ⟨iv, rfl, A4⟩
  clear A2 A3 hX
  have A4 := hid (A4.perm (ds := [blkC X [.int .i64 0, .int .i64 0, .slice none 0 0] 41, blkC P (flat (zeroQ.set 0 ⟨sA, 0, iv, .map (some b)⟩)) 122, ownC 9 iv (txtV [sX]), mapC b 0 (.map []), inC w]) (List.perm_middle (l₁ := [blkC P (flat (zeroQ.set 0 ⟨sA, 0, iv, .map (some b)⟩)) 122, ownC 9 iv (txtV [sX])])))
  have r0 := A4.out.r0
  have r1 := A4.out.r1
  have r2 := A4.out.r2
  have g0 := A4.out.rf 0
  have g1 := A4.out.rf 1
  have g2 := A4.out.rf 2
  have A5 := hid (A4.out.setR (.int .i64 0) (.int .i64 0) (.slice none 0 0))
  clear A4
  go_wp2_with fail
  generalize ((w3.setCell ⟨X, 0, none⟩ (.int .i64 0)).setCell ⟨X, 1, none⟩ (.int .i64 0)).setCell ⟨X, 2, none⟩ (.slice none 0 0) = w4 at A5 ⊢
  have A6 := hid (A5.out.perm (ds := [blkC P (flat (zeroQ.set 0 ⟨sA, 0, iv, .map (some b)⟩)) 122, ownC 9 iv (txtV [sX]), mapC b 0 (.map [])] ++ [blkC X [.int .i64 0, .int .i64 0, .slice none 0 0] 41, inC w]) (List.perm_middle (l₁ := [blkC P (flat (zeroQ.set 0 ⟨sA, 0, iv, .map (some b)⟩)) 122, ownC 9 iv (txtV [sX]), mapC b 0 (.map [])])).symm)
  refine (do_take (P := P) (fun w' h => tab_in HT.out h (by simp)) A6.out).mono ?_
  rintro e w5 ⟨so, rfl, A7⟩
  clear A5 A6 r0 r1 r2 g0 g1 g2
  have A7 := hid (A7.perm (ds := [blkC X [.int .i64 0, .int .i64 0, .slice none 0 0] 41, blkC P (flat (zeroQ.set 0 ⟨sA, 0, iv, .map (some b)⟩)) 122, ownC 9 iv (txtV [sX]), mapC b 1 mapG, ownC 9 (.slice so 1 1) (txtV [sX]), inC w]) (List.perm_middle (l₁ := [blkC P (flat (zeroQ.set 0 ⟨sA, 0, iv, .map (some b)⟩)) 122, ownC 9 iv (txtV [sX]), mapC b 1 mapG, ownC 9 (.slice so 1 1) (txtV [sX])])))
  have r0 := A7.out.r0
  have r1 := A7.out.r1
  have r2 := A7.out.r2
  have g0 := A7.out.rf 0
  have g1 := A7.out.rf 1
  have g2 := A7.out.rf 2
  have A8 := hid (A7.out.setR (.int .i64 0) (.int .i64 0) (.slice so 1 1))
  clear A7
  go_wp2_with fail
  have A9 := hid (A8.out.addOne sX)
  have hsz : (((w5.setCell ⟨X, 0, none⟩ (.int .i64 0)).setCell ⟨X, 1, none⟩ (.int .i64 0)).setCell ⟨X, 2, none⟩ (.slice so 1 1)).heap.size = w5.heap.size := by simp [World.setCell]
  rw [hsz] at A9
  clear hsz A8
  refine (sameResult_true 0 0 (l := [sX]) (txts_of (e := 9) A9.out (by simp)) (txts_of (e := 9) A9.out List.mem_cons_self) (by simp)).mono ?_
  rintro e w6 ⟨rfl, B6⟩
  have A10 := hid ((A9.out.later B6).perm (ds := blkC P (flat (zeroQ.set 0 ⟨sA, 0, iv, .map (some b)⟩)) 122 :: ownC 9 iv (txtV [sX]) :: mapC b 1 mapG :: [ownC 9 (.slice (some ⟨w5.heap.size, 0, none⟩) 1 1) (txtV [sX]), blkC X [.int .i64 0, .int .i64 0, .slice so 1 1] 41, ownC 9 (.slice so 1 1) (txtV [sX]), inC w]) ((List.perm_append_comm (l₁ := [ownC 9 (.slice (some ⟨w5.heap.size, 0, none⟩) 1 1) (txtV [sX]), blkC X [.int .i64 0, .int .i64 0, .slice so 1 1] 41]) (l₂ := [blkC P (flat (zeroQ.set 0 ⟨sA, 0, iv, .map (some b)⟩)) 122, ownC 9 iv (txtV [sX]), mapC b 1 mapG])).append_right [ownC 9 (.slice so 1 1) (txtV [sX]), inC w]))
  clear A9 B6 r0 r1 r2 g0 g1 g2
  have SL := hid (Slot_one (i := 0) (nm := sA) (first := 0) (items := [sX]) (x0 := [103]) (c0 := 1) A10.out rfl rfl (by omega) (by decide +kernel) (by decide +kernel) (by omega) (by decide +kernel) (by decide) (by decide) mapG_has mapG_left (by omega) mapG_size)
  clear A10
  go_wp2_with fail
  refine SL.out.mono ?_
  rintro e w7 ⟨s7, n7, c7, rfl, A11⟩
  rw [slot_ex] at A11
  have A11 := hid A11
  clear SL
  obtain ⟨hn, hn'⟩ := owns_len (A11.out.1.2.1 : w7.ownsRow 0 5 1 (.slice s7 n7 c7) (cellsB [1, 97, 0, 1, 1, 120, 1, 1, 103, 1]).length (cellsB [1, 97, 0, 1, 1, 120, 1, 1, 103, 1]))
  have hn7 : n7 = 10 := hn
  clear hn hn'
  subst hn7
  go_wp2_with fail
  have A12 := hid (A11.out.alloc (.cells (cellsB [1, 97, 0, 1, 1, 120, 1, 1, 103, 1]).toArray 5))
  have RA := hid (Reads.of_owns (l := [1, 97, 0, 1, 1, 120, 1, 1, 103, 1]) (A12.out.1.2.1))
  have RB := hid (Reads.of_owns (l := [1, 97, 0, 1, 1, 120, 1, 1, 103, 1]) (World.ownsRow_lit (base := 0) (e := 5) (size := 1) w7 (cellsB [1, 97, 0, 1, 1, 120, 1, 1, 103, 1]).toArray 10 (Nat.zero_le _) (by unfold maxLen; omega) rfl))
  have eC : (cellsB [1, 97, 0, 1, 1, 120, 1, 1, 103, 1]).toArray = #[.int .u8 1, .int .u8 97, .int .u8 0, .int .u8 1, .int .u8 1, .int .u8 120, .int .u8 1, .int .u8 1, .int .u8 103, .int .u8 1] := by kernel_rfl
  rw [eC] at A12 RA RB
  refine (same_true RA.out RB.out (by simp)).mono ?_
  rintro e w8 ⟨rfl, B8⟩
  have A13 := hid (A12.out.later B8)
  clear A12 RA RB B8 A11
  go_wp2
  go_ret
  exact ⟨rfl, A13.out.into (by simp)⟩
end Go.Proofs.YtkcepkehgkkkbaaGreatDoor

namespace Go.Proofs.YtkcepkehgkkkbaaGreatDoor
open Go.RowKit
set_option linter.unusedVariables false

/-- What Check tells, of any op. -/
def chkA (k : Int) (s t n m : Int) : Int := if k < 1 ∨ 8 < k then 50 else chkT k.toNat s t n m
theorem chkA_in {k : Int} (h1 : 1 ≤ k) (h8 : k ≤ 8) (s t n m : Int) : chkA k s t n m = chkT k.toNat s t n m := by unfold chkA; rw [if_neg (by omega)]
theorem chkA_out {k : Int} (h : k < 1 ∨ 8 < k) (s t n m : Int) : chkA k s t n m = 50 := by unfold chkA; rw [if_pos h]

set_option maxRecDepth 1000000 in
theorem check_out {w : World} {k : Int} (h : k < 1 ∨ 8 < k) (nm tx : ByteArray) (n m : Int) : Calls Tryz.prog 30 #[opV k nm tx n m] w fun e w' => e = .returned (.int .i64 50) ∧ Below w.heap.size w w' := by
  by_cases h1 : k < 1
  · have e1 : decide (k < 1) = true := by simpa using h1
    clear h
    go_enter Tryz.func30, Tryz.ntmps30
    go_wp2
    go_ret
    exact ⟨rfl, ba _ _⟩
  · have e1 : decide (k < 1) = false := by simpa using h1
    have e2 : decide (8 < k) = true := by simp; omega
    clear h
    go_enter Tryz.func30, Tryz.ntmps30
    go_wp2
    go_ret
    exact ⟨rfl, ba _ _⟩
set_option maxRecDepth 1000000 in
theorem rcheck_out {w : World} {k : Int} (h : k < 1 ∨ 8 < k) (nm tx : ByteArray) (n m : Int) : Calls Tryz.prog 61 #[opV k nm tx n m] w fun e w' => e = .returned (.int .i64 50) ∧ Below w.heap.size w w' := by
  by_cases h1 : k < 1
  · have e1 : decide (k < 1) = true := by simpa using h1
    clear h
    go_enter Tryz.func61, Tryz.ntmps61
    go_wp2
    go_ret
    exact ⟨rfl, ba _ _⟩
  · have e1 : decide (k < 1) = false := by simpa using h1
    have e2 : decide (8 < k) = true := by simp; omega
    clear h
    go_enter Tryz.func61, Tryz.ntmps61
    go_wp2
    go_ret
    exact ⟨rfl, ba _ _⟩

theorem check_any {w : World} (hT : Tab w) (k : Int) (nm tx : ByteArray) (n m : Int) : Calls Tryz.prog 30 #[opV k nm tx n m] w fun e w' => e = .returned (.int .i64 (chkA k nm.size tx.size n m)) ∧ Below w.heap.size w w' := by
  by_cases h : k < 1 ∨ 8 < k
  · rw [chkA_out h]
    exact check_out h nm tx n m
  · rw [chkA_in (by omega) (by omega)]
    have := check_tab hT k.toNat (by omega) (by omega) nm tx n m
    rw [show ((k.toNat : Nat) : Int) = k by omega] at this
    exact this
theorem rcheck_any {w : World} (k : Int) (nm tx : ByteArray) (n m : Int) : Calls Tryz.prog 61 #[opV k nm tx n m] w fun e w' => e = .returned (.int .i64 (chkA k nm.size tx.size n m)) ∧ Below w.heap.size w w' := by
  by_cases h : k < 1 ∨ 8 < k
  · rw [chkA_out h]
    exact rcheck_out h nm tx n m
  · rw [chkA_in (by omega) (by omega)]
    obtain rfl | rfl | rfl | rfl | rfl | rfl | rfl | rfl : k = 1 ∨ k = 2 ∨ k = 3 ∨ k = 4 ∨ k = 5 ∨ k = 6 ∨ k = 7 ∨ k = 8 := by omega
    · exact rc1 nm tx n m
    · exact rc2 nm tx n m
    · exact rc3 nm tx n m
    · exact rc4 nm tx n m
    · exact rc5 nm tx n m
    · exact rc6 nm tx n m
    · exact rc7 nm tx n m
    · exact rc8 nm tx n m

end Go.Proofs.YtkcepkehgkkkbaaGreatDoor

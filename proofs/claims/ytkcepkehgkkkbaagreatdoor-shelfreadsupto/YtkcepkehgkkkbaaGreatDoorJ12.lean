import Derived.Test.YtkcepkehgkkkbaaGreatDoorJ9
import Derived.Deep.DeepCutAuto
namespace Go.Proofs.YtkcepkehgkkkbaaGreatDoor
open Go.RowKit
set_option linter.unusedVariables false
attribute [local go_sem] run_store_func run_store_nilf

/-- The op and the result lie in two blocks of their own, behind the parts. -/
structure Begun (w0 w : World) (pre cs : List Comp) (k : Int) (nm tx : ByteArray) (n m : Int) : Prop where
  all : All (blkC (w0.heap.size + 1) [.int .i64 0, .int .i64 0, .slice none 0 0] 41 :: blkC w0.heap.size [.int .i64 k, .string nm, .string tx, .int .i64 n, .int .i64 m] 35 :: (pre ++ cs)) w
theorem done_start {w : World} {pre cs : List Comp} (h : All (pre ++ cs) w) (nm tx : ByteArray) (n m : Int) (k : Int) : Begun w ((w.alloc (opB k nm tx n m)).alloc (.cells #[.int .i64 0, .int .i64 0, .slice none 0 0] 41)) pre cs k nm tx n m := by
  have h1 := (h.addBlk [.int .i64 k, .string nm, .string tx, .int .i64 n, .int .i64 m] 35).addBlk [.int .i64 0, .int .i64 0, .slice none 0 0] 41
  have hsz : (w.alloc (.cells [Value.int .i64 k, .string nm, .string tx, .int .i64 n, .int .i64 m].toArray 35)).heap.size = w.heap.size + 1 := by simp
  rw [hsz] at h1
  exact ⟨h1⟩
section
variable {w0 w w' : World} {pre cs : List Comp} {k : Int} {nm tx : ByteArray} {n m : Int}
theorem Begun.next (h : Begun w0 w pre cs k nm tx n m) (hb : Below w.heap.size w w') : Begun w0 w' pre cs k nm tx n m := ⟨h.all.later hb⟩
theorem Begun.d (h : Begun w0 w pre cs k nm tx n m) : Begun w0 w.drew pre cs k nm tx n m := h.next (bd w)
theorem Begun.op (h : Begun w0 w pre cs k nm tx n m) : w.heap[w0.heap.size]? = some (.cells [.int .i64 k, .string nm, .string tx, .int .i64 n, .int .i64 m].toArray 35 (0, 0)) := h.all.blk mem2
theorem Begun.o0 (h : Begun w0 w pre cs k nm tx n m) : w.cell? ⟨w0.heap.size, 0, none⟩ = some (.int .i64 k) := by rw [cell_at h.op]; rfl
theorem Begun.o1 (h : Begun w0 w pre cs k nm tx n m) : w.cell? ⟨w0.heap.size, 1, none⟩ = some (.string nm) := by rw [cell_at h.op]; rfl
theorem Begun.o2 (h : Begun w0 w pre cs k nm tx n m) : w.cell? ⟨w0.heap.size, 2, none⟩ = some (.string tx) := by rw [cell_at h.op]; rfl
theorem Begun.o3 (h : Begun w0 w pre cs k nm tx n m) : w.cell? ⟨w0.heap.size, 3, none⟩ = some (.int .i64 n) := by rw [cell_at h.op]; rfl
theorem Begun.o4 (h : Begun w0 w pre cs k nm tx n m) : w.cell? ⟨w0.heap.size, 4, none⟩ = some (.int .i64 m) := by rw [cell_at h.op]; rfl
theorem Begun.p0 (h : Begun w0 w pre cs k nm tx n m) : w.drew.cell? ⟨w0.heap.size, 0, none⟩ = some (.int .i64 k) := h.o0
theorem Begun.p1 (h : Begun w0 w pre cs k nm tx n m) : w.drew.cell? ⟨w0.heap.size, 1, none⟩ = some (.string nm) := h.o1
theorem Begun.blk (h : Begun w0 w pre cs k nm tx n m) {P : Nat} {qs : List Qv} (hm : blkC P (flat qs) 122 ∈ pre) : w.heap[P]? = some (.cells (flat qs).toArray 122 (0, 0)) := h.all.blk (List.mem_cons_of_mem _ (List.mem_cons_of_mem _ (List.mem_append_left _ hm)))
theorem Begun.lt (h : Begun w0 w pre cs k nm tx n m) : w0.heap.size + 1 < w.heap.size := h.all.1.2.2 _ (by simp [blkC])
abbrev findsAt (P : Nat) (qs : List Qv) (w : World) : Prop := qs.length = 8 → ∀ nm : ByteArray, Calls Tryz.prog 83 #[.pointer (some ⟨P, 0, none⟩), .string nm] w fun e w' => e = .returned (.int .i64 (findN qs nm)) ∧ w' = w
theorem deeds_1 (h : Begun w0 w pre cs k nm tx n m) {P : Nat} {qs : List Qv} (hm : blkC P (flat qs) 122 ∈ pre) : Calls Tryz.prog 116 #[] w fun e w' => e = .returned deedsV ∧ Hid (Begun w0 w' pre cs k nm tx n m) ∧ w0.heap.size + 1 < w'.heap.size ∧ w0.heap.size < w'.heap.size ∧ w'.cell? ⟨w0.heap.size, 0, none⟩ = some (.int .i64 k) ∧ w'.cell? ⟨w0.heap.size, 1, none⟩ = some (.string nm) ∧ Hid (findsAt P qs w') ∧ Hid (findsAt P qs (w'.alloc (.cells #[.nilFunc, .bool false] 170))) :=
  deeds_any.mono fun e w' ⟨h1, h2⟩ => by
    have h3 := h.next h2
    exact ⟨h1, h3, h3.lt, Nat.lt_of_succ_lt h3.lt, h3.o0, h3.o1, fun h8 nm => find_any (h3.blk hm) h8 nm, fun h8 nm => find_any ((h3.next (ba _ _)).blk hm) h8 nm⟩
theorem deeds_2 (h : Begun w0 w pre cs k nm tx n m) {P : Nat} {qs : List Qv} (hm : blkC P (flat qs) 122 ∈ pre) : Calls Tryz.prog 116 #[] (w.alloc (.cells #[.nilFunc, .bool false] 170)).drew fun e w' => e = .returned deedsV ∧ Hid (Begun w0 w' (blkC w.heap.size [.nilFunc, .bool false] 170 :: pre) cs k nm tx n m) ∧ w0.heap.size + 1 < w'.heap.size ∧ w0.heap.size < w'.heap.size ∧ w'.cell? ⟨w0.heap.size, 0, none⟩ = some (.int .i64 k) ∧ w'.cell? ⟨w0.heap.size, 1, none⟩ = some (.string nm) ∧ Hid (findsAt P qs w') ∧ w'.cell? ⟨w.heap.size, 0, none⟩ = some .nilFunc ∧ w'.cell? ⟨w.heap.size, 1, none⟩ = some (.bool false) ∧ w'.frozen? ⟨w.heap.size, 0, none⟩ = false ∧ w'.frozen? ⟨w.heap.size, 1, none⟩ = false :=
  deeds_any.mono fun e w' ⟨h1, h2⟩ => by
    have hb := (h.all.addBlk [.nilFunc, .bool false] 170).drew.later h2
    have hb' : All (blkC (w0.heap.size + 1) [.int .i64 0, .int .i64 0, .slice none 0 0] 41 :: blkC w0.heap.size [.int .i64 k, .string nm, .string tx, .int .i64 n, .int .i64 m] 35 :: ((blkC w.heap.size [.nilFunc, .bool false] 170 :: pre) ++ cs)) w' :=
      hb.perm (List.perm_middle (a := blkC w.heap.size [.nilFunc, .bool false] 170) (l₁ := [blkC (w0.heap.size + 1) [.int .i64 0, .int .i64 0, .slice none 0 0] 41, blkC w0.heap.size [.int .i64 k, .string nm, .string tx, .int .i64 n, .int .i64 m] 35])).symm
    have h3 : Begun w0 w' (blkC w.heap.size [.nilFunc, .bool false] 170 :: pre) cs k nm tx n m := ⟨hb'⟩
    have hd := hb.blk List.mem_cons_self
    exact ⟨h1, h3, h3.lt, Nat.lt_of_succ_lt h3.lt, h3.o0, h3.o1, fun h8 nm => find_any (h3.blk (List.mem_cons_of_mem _ hm)) h8 nm, by rw [cell_at hd]; rfl, by rw [cell_at hd]; rfl, free_at hd 0, free_at hd 1⟩
theorem begun_a {d : Nat} {f : Nat} {x : Bool} (h : Begun w0 w (blkC d [.nilFunc, .bool false] 170 :: pre) cs k nm tx n m) : Hid (Begun w0 ((w.setCell ⟨d, 0, none⟩ (fnV f)).setCell ⟨d, 1, none⟩ (.bool x)) (blkC d [fnV f, .bool x] 170 :: pre) cs k nm tx n m) := by
  have p := List.perm_middle (a := blkC d [.nilFunc, .bool false] 170) (l₁ := [blkC (w0.heap.size + 1) [.int .i64 0, .int .i64 0, .slice none 0 0] 41, blkC w0.heap.size [.int .i64 k, .string nm, .string tx, .int .i64 n, .int .i64 m] 35]) (l₂ := pre ++ cs)
  have h1 := ((h.all.perm p).setBlk 0 (fnV f)).setBlk 1 (.bool x)
  exact ⟨h1.perm (List.perm_middle (a := blkC d [fnV f, .bool x] 170) (l₁ := [blkC (w0.heap.size + 1) [.int .i64 0, .int .i64 0, .slice none 0 0] 41, blkC w0.heap.size [.int .i64 k, .string nm, .string tx, .int .i64 n, .int .i64 m] 35]) (l₂ := pre ++ cs)).symm⟩
theorem begun_b {f : Nat} {x : Bool} (h : Begun w0 w pre cs k nm tx n m) : Hid (Begun w0 (w.alloc (.cells #[fnV f, .bool x] 170)) (blkC w.heap.size [fnV f, .bool x] 170 :: pre) cs k nm tx n m) := by
  have h1 := h.all.addBlk [fnV f, .bool x] 170
  exact ⟨h1.perm (List.perm_middle (a := blkC w.heap.size [fnV f, .bool x] 170) (l₁ := [blkC (w0.heap.size + 1) [.int .i64 0, .int .i64 0, .slice none 0 0] 41, blkC w0.heap.size [.int .i64 k, .string nm, .string tx, .int .i64 n, .int .i64 m] 35]) (l₂ := pre ++ cs)).symm⟩
theorem Begun.b0 {d : Nat} {a b : Value} (h : Begun w0 w (blkC d [a, b] 170 :: pre) cs k nm tx n m) : w.cell? ⟨d, 0, none⟩ = some a := by rw [cell_at (h.all.blk (List.mem_cons_of_mem _ mem2))]; rfl
theorem Begun.b1 {d : Nat} {a b : Value} (h : Begun w0 w (blkC d [a, b] 170 :: pre) cs k nm tx n m) : w.cell? ⟨d, 1, none⟩ = some b := by rw [cell_at (h.all.blk (List.mem_cons_of_mem _ mem2))]; rfl
theorem Begun.handed {c : Comp} (h : Begun w0 w (c :: pre) cs k nm tx n m) : All (pre ++ ([blkC (w0.heap.size + 1) [.int .i64 0, .int .i64 0, .slice none 0 0] 41, blkC w0.heap.size [.int .i64 k, .string nm, .string tx, .int .i64 n, .int .i64 m] 35, c] ++ cs)) w := by
  have h1 := h.all
  refine h1.perm ?_
  have : ([blkC (w0.heap.size + 1) [.int .i64 0, .int .i64 0, .slice none 0 0] 41, blkC w0.heap.size [.int .i64 k, .string nm, .string tx, .int .i64 n, .int .i64 m] 35, c] ++ pre ++ cs).Perm (pre ++ [blkC (w0.heap.size + 1) [.int .i64 0, .int .i64 0, .slice none 0 0] 41, blkC w0.heap.size [.int .i64 k, .string nm, .string tx, .int .i64 n, .int .i64 m] 35, c] ++ cs) := List.perm_append_comm.append_right cs
  simpa using this
theorem handed_back {a b c : Comp} {post : List Comp} (h : All (post ++ ([a, b, c] ++ cs)) w) : All (a :: b :: c :: (post ++ cs)) w := by
  refine h.perm ?_
  have : (post ++ [a, b, c] ++ cs).Perm ([a, b, c] ++ post ++ cs) := List.perm_append_comm.append_right cs
  simpa using this
end
end Go.Proofs.YtkcepkehgkkkbaaGreatDoor

namespace Go.Proofs.YtkcepkehgkkkbaaGreatDoor
open Go.RowKit
set_option linter.unusedVariables false

section
variable {w0 w w' : World} {pre cs : List Comp} {k : Int} {nm tx : ByteArray} {n m : Int}
theorem Begun.handed2 (h : Begun w0 w pre cs k nm tx n m) : All (pre ++ ([blkC (w0.heap.size + 1) [.int .i64 0, .int .i64 0, .slice none 0 0] 41, blkC w0.heap.size [.int .i64 k, .string nm, .string tx, .int .i64 n, .int .i64 m] 35] ++ cs)) w := by
  have h1 := h.all
  refine h1.perm ?_
  have : ([blkC (w0.heap.size + 1) [.int .i64 0, .int .i64 0, .slice none 0 0] 41, blkC w0.heap.size [.int .i64 k, .string nm, .string tx, .int .i64 n, .int .i64 m] 35] ++ pre ++ cs).Perm (pre ++ [blkC (w0.heap.size + 1) [.int .i64 0, .int .i64 0, .slice none 0 0] 41, blkC w0.heap.size [.int .i64 k, .string nm, .string tx, .int .i64 n, .int .i64 m] 35] ++ cs) := List.perm_append_comm.append_right cs
  simpa using this
theorem handed_back2 {a b : Comp} {post : List Comp} (h : All (post ++ ([a, b] ++ cs)) w) : All (a :: b :: (post ++ cs)) w := by
  refine h.perm ?_
  have : (post ++ [a, b] ++ cs).Perm ([a, b] ++ post ++ cs) := List.perm_append_comm.append_right cs
  simpa using this
end

/-- The table of forms as a part. -/
def tabC : Comp := ⟨Tab, [0]⟩
theorem tabC_good : tabC.Good := by
  intro w w' h hl hk
  have h0 : w'.heap[0]? = w.heap[0]? := hk 0 (by simp [tabC])
  refine ⟨Nat.lt_of_lt_of_le h.lt hl.size, fun i hi => ?_⟩
  have := h.cell i hi
  simp only [World.cell?, h0] at this ⊢
  exact this

/-- What Check tells of a kind that may be. -/
def chkT (k : Nat) (s t n m : Int) : Int := chkR (formN.getD (k * 8) 0) (formN.getD (k * 8 + 1) 0) (formN.getD (k * 8 + 2) 0) (formN.getD (k * 8 + 3) 0) (formN.getD (k * 8 + 4) 0) (formN.getD (k * 8 + 5) 0) (formN.getD (k * 8 + 6) 0) (formN.getD (k * 8 + 7) 0) s t n m

theorem check_tab {w : World} (h : Tab w) (k : Nat) (h1 : 1 ≤ k) (h8 : k ≤ 8) (nm tx : ByteArray) (n m : Int) : Calls Tryz.prog 30 #[opV k nm tx n m] w fun e w' => e = .returned (.int .i64 (chkT k nm.size tx.size n m)) ∧ Below w.heap.size w w' :=
  check_row k h1 h8 nm tx n m _ _ _ _ _ _ _ _ (h.cell _ (by omega)) (h.cell _ (by omega)) (h.cell _ (by omega)) (h.cell _ (by omega)) (h.cell _ (by omega)) (h.cell _ (by omega)) (h.cell _ (by omega)) (h.cell _ (by omega)) h.lt

set_option maxHeartbeats 3200000 in
set_option maxRecDepth 1000000 in
theorem Do_of {P : Nat} {pre cs : List Comp} {w : World} (ht : ∀ w', All (pre ++ cs) w' → Tab w') (k : Nat) (h1 : 1 ≤ k) (h8 : k ≤ 8) (nm tx : ByteArray) (n m : Int) (hk : chkT k nm.size tx.size n m = 0) {j : Int} {G : Int → Int → Value → List Comp → Prop}
    (hc : ∀ (cs' : List Comp) (w' : World), All (pre ++ cs') w' → Calls Tryz.prog 86 #[.pointer (some ⟨P, 0, none⟩), opV k nm tx n m] w' fun e w'' => ∃ c x so sn sc post, e = .returned (.tuple #[resV c x (.slice so sn sc), .int .i64 j]) ∧ G c x (.slice so sn sc) post ∧ All (post ++ cs') w'')
    (h : All (pre ++ cs) w) :
    Calls Tryz.prog 44 #[.pointer (some ⟨P, 0, none⟩), opV k nm tx n m] w fun e w'' => ∃ c x so sn sc post, e = .returned (.tuple #[resV c x (.slice so sn sc), .int .i64 j, .int .i64 0]) ∧ G c x (.slice so sn sc) post ∧ All (post ++ cs) w'' := by
  have T := hid (done_start h nm tx n m k)
  have HC := hid hc
  have HK := hid hk
  have hT : Tab ((w.alloc (opB k nm tx n m)).alloc (.cells #[.int .i64 0, .int .i64 0, .slice none 0 0] 41)) := ht _ T.out.all.tail.tail
  have HT := hid hT
  clear h hc hk hT
  go_enter Tryz.func44, Tryz.ntmps44
  go_wp2_with fail
  refine (check_tab HT.out k h1 h8 nm tx n m).mono ?_
  rw [HK.out]
  rintro e w2 ⟨rfl, B2⟩
  have T2 := hid (T.out.next B2)
  clear B2 T HT
  have o0 := T2.out.o0
  have o1 := T2.out.o1
  have o2 := T2.out.o2
  have o3 := T2.out.o3
  have o4 := T2.out.o4
  go_wp2_with fail
  refine (HC.out _ _ T2.out.handed2).mono ?_
  rintro e w5 ⟨c, x, so, sn, sc, post, rfl, hG, A5⟩
  have A6 := hid (handed_back2 A5)
  have HG := hid hG
  clear A5 hG T2 o0 o1 o2 o3 o4
  have A7 := hid ((A6.out.setR (.int .i64 c) (.int .i64 x) (.slice so sn sc)).alloc (.cells #[.int .i64 c, .int .i64 x, .slice so sn sc] 41))
  have hR : w.heap.size + 1 < w5.heap.size := A6.out.1.2.2 _ (by simp [blkC])
  have r0 := A6.out.r0
  have r1 := A6.out.r1
  have r2 := A6.out.r2
  have g0 := A6.out.rf 0
  have g1 := A6.out.rf 1
  have g2 := A6.out.rf 2
  clear A6
  go_wp2
  generalize (((w5.setCell ⟨w.heap.size + 1, 0, none⟩ (.int .i64 c)).setCell ⟨w.heap.size + 1, 1, none⟩ (.int .i64 x)).setCell ⟨w.heap.size + 1, 2, none⟩ (.slice so sn sc)).alloc (.cells #[.int .i64 c, .int .i64 x, .slice so sn sc] 41) = w6 at A7 ⊢
  clear r0 r1 r2
  have r0 := A7.out.r0
  have r1 := A7.out.r1
  have r2 := A7.out.r2
  refine bodyPost_ret (v := .tuple #[resV c x (.slice so sn sc), .int .i64 j, .int .i64 0]) (by simp only [results, Tryz.f44]; go_simp) rfl ?_
  exact ⟨c, x, so, sn, sc, post, rfl, HG.out, A7.out.tail.tail⟩
end Go.Proofs.YtkcepkehgkkkbaaGreatDoor

namespace Go.Proofs.YtkcepkehgkkkbaaGreatDoor
open Go.RowKit
set_option linter.unusedVariables false
attribute [local go_sem] run_store_func run_store_nilf

set_option maxHeartbeats 3200000 in
set_option maxRecDepth 1000000 in
theorem done_1 {P : Nat} {qs : List Qv} {pre cs : List Comp} {w : World} (hm : blkC P (flat qs) 122 ∈ pre) (h8 : qs.length = 8) (nm tx : ByteArray) (n m : Int) {j : Int} {G : Int → Int → Value → List Comp → Prop}
    (hc : ∀ (cs' : List Comp) (w' : World), All (pre ++ cs') w' → Calls Tryz.prog 132 #[.pointer (some ⟨P, 0, none⟩), .int .i64 (findN qs nm), opV 1 nm tx n m] w' fun e w'' => ∃ c x so sn sc post, e = .returned (.tuple #[resV c x (.slice so sn sc), .int .i64 j]) ∧ G c x (.slice so sn sc) post ∧ All (post ++ cs') w'')
    (h : All (pre ++ cs) w) :
    Calls Tryz.prog 86 #[.pointer (some ⟨P, 0, none⟩), opV 1 nm tx n m] w fun e w'' => ∃ c x so sn sc post, e = .returned (.tuple #[resV c x (.slice so sn sc), .int .i64 j]) ∧ G c x (.slice so sn sc) post ∧ All (post ++ cs) w'' := by
  have T := hid (done_start h nm tx n m 1)
  have HC := hid hc
  have HM := hid hm
  have hP : P < w.heap.size := (h.mem (List.mem_append_left _ hm)).2.2 P (by simp [blkC])
  clear h hc hm
  generalize hW : (w.alloc (opB 1 nm tx n m)).alloc (.cells #[.int .i64 0, .int .i64 0, .slice none 0 0] 41) = w1 at T
  have o0 := T.out.o0
  have o1 := T.out.o1
  have hz1 := T.out.lt
  have hz2 := Nat.lt_of_succ_lt hz1
  have hix : ∀ W : World, (Instr.index 171 deedsV (.int .i64 1)).run Tryz.prog W = .ok (.agg #[fnV 132, .bool false]) W := fun W => by kernel_rfl
  have F1 := hid (find_any (w := w1.drew) (T.out.blk HM.out) h8 nm)
  have F2 := hid (find_any (w := (w1.alloc (.cells #[.nilFunc, .bool false] 170)).drew) ((T.out.next (ba _ _)).blk HM.out) h8 nm)
  have D1 := hid (deeds_1 (T.out.next (bd w1)) HM.out)
  have D2 := hid (deeds_2 T.out HM.out)
  go_enter Tryz.func86, Tryz.ntmps86
  go_upto_region 1 with fail
  go_cut [6, 7] from 8 to 15 (fun dv fv wx => ∃ b, dv = .pointer (some ⟨b, 0, none⟩) ∧ fv = .int .i64 (findN qs nm) ∧ Hid (Begun w wx (blkC b [fnV 132, .bool false] 170 :: pre) cs 1 nm tx n m))
  case first =>
   go_region_law (go_simp; first | (go_at_call 116; refine D1.out.mono ?_; rintro e w3 ⟨rfl, T3, hlt3, hlt4, s0, s1, F3, F4⟩) | (go_at_call 116; refine D2.out.mono ?_; rintro e w3 ⟨rfl, T3, hlt3, hlt4, s0, s1, F3, q0, q1, z0, z1⟩) | (go_at_call 83; refine F1.out.mono ?_; rintro e w4 ⟨rfl, hw4⟩; subst hw4) | (go_at_call 83; refine F2.out.mono ?_; rintro e w4 ⟨rfl, hw4⟩; subst hw4) | (go_at_call 83; refine (F3.out h8 nm).mono ?_; rintro e w4 ⟨rfl, hw4⟩; subst hw4) | (go_at_call 83; refine (F4.out h8 nm).mono ?_; rintro e w4 ⟨rfl, hw4⟩; subst hw4))
   all_goals (go_wp2_with fail; go_meet)
   all_goals first | exact ⟨_, rfl, rfl, begun_a T3.out⟩ | exact ⟨_, rfl, rfl, begun_b T3.out⟩ | skip
  case rest =>
  obtain ⟨b, rfl, rfl, TB⟩ := hcut
  clear F1 F2 D1 D2 hix hW o0 o1 T hz1 hz2
  have b0 := TB.out.b0
  have b1 := TB.out.b1
  have o0 := TB.out.o0
  have o1 := TB.out.o1
  have o2 := TB.out.o2
  have o3 := TB.out.o3
  have o4 := TB.out.o4
  go_wp2_with fail
  refine (HC.out _ _ TB.out.handed).mono ?_
  rintro e w5 ⟨c, x, so, sn, sc, post, rfl, hG, A5⟩
  have A6 := hid (handed_back A5)
  have HG := hid hG
  clear A5 hG TB b0 b1 o0 o1 o2 o3 o4
  have r0 := A6.out.r0
  have r1 := A6.out.r1
  have r2 := A6.out.r2
  have g0 := A6.out.rf 0
  have g1 := A6.out.rf 1
  have g2 := A6.out.rf 2
  have A8 := hid (A6.out.setR (.int .i64 c) (.int .i64 x) (.slice so sn sc))
  clear A6
  go_wp2
  generalize (((w5.setCell ⟨w.heap.size + 1, 0, none⟩ (.int .i64 c)).setCell ⟨w.heap.size + 1, 1, none⟩ (.int .i64 x)).setCell ⟨w.heap.size + 1, 2, none⟩ (.slice so sn sc)) = w6 at A8 ⊢
  clear r0 r1 r2
  have r0 := A8.out.r0
  have r1 := A8.out.r1
  have r2 := A8.out.r2
  refine bodyPost_ret (v := .tuple #[resV c x (.slice so sn sc), .int .i64 j]) (by rw [results_cell_tmp (fn := Tryz.f86) (p := 4) (u := 5) (ty := 41) rfl]; go_simp) rfl ?_
  exact ⟨c, x, so, sn, sc, post, rfl, HG.out, A8.out.tail.tail.tail⟩
end Go.Proofs.YtkcepkehgkkkbaaGreatDoor

namespace Go.Proofs.YtkcepkehgkkkbaaGreatDoor
open Go.RowKit
set_option linter.unusedVariables false
attribute [local go_sem] run_store_func run_store_nilf

set_option maxHeartbeats 3200000 in
set_option maxRecDepth 1000000 in
theorem done_3 {P : Nat} {qs : List Qv} {pre cs : List Comp} {w : World} (hm : blkC P (flat qs) 122 ∈ pre) (h8 : qs.length = 8) (nm tx : ByteArray) (n m : Int) (hN : findN qs nm ≠ -1) {j : Int} {G : Int → Int → Value → List Comp → Prop}
    (hc : ∀ (cs' : List Comp) (w' : World), All (pre ++ cs') w' → Calls Tryz.prog 134 #[.pointer (some ⟨P, 0, none⟩), .int .i64 (findN qs nm), opV 3 nm tx n m] w' fun e w'' => ∃ c x so sn sc post, e = .returned (.tuple #[resV c x (.slice so sn sc), .int .i64 j]) ∧ G c x (.slice so sn sc) post ∧ All (post ++ cs') w'')
    (h : All (pre ++ cs) w) :
    Calls Tryz.prog 86 #[.pointer (some ⟨P, 0, none⟩), opV 3 nm tx n m] w fun e w'' => ∃ c x so sn sc post, e = .returned (.tuple #[resV c x (.slice so sn sc), .int .i64 j]) ∧ G c x (.slice so sn sc) post ∧ All (post ++ cs) w'' := by
  have T := hid (done_start h nm tx n m 3)
  have HC := hid hc
  have HM := hid hm
  have hP : P < w.heap.size := (h.mem (List.mem_append_left _ hm)).2.2 P (by simp [blkC])
  have eN : (findN qs nm == -1) = false := by rw [beq_eq_false_iff_ne]; exact hN
  clear h hc hm
  generalize hW : (w.alloc (opB 3 nm tx n m)).alloc (.cells #[.int .i64 0, .int .i64 0, .slice none 0 0] 41) = w1 at T
  have o0 := T.out.o0
  have o1 := T.out.o1
  have hz1 := T.out.lt
  have hz2 := Nat.lt_of_succ_lt hz1
  have hix : ∀ W : World, (Instr.index 171 deedsV (.int .i64 3)).run Tryz.prog W = .ok (.agg #[fnV 134, .bool true]) W := fun W => by kernel_rfl
  have F1 := hid (find_any (w := w1.drew) (T.out.blk HM.out) h8 nm)
  have F2 := hid (find_any (w := (w1.alloc (.cells #[.nilFunc, .bool false] 170)).drew) ((T.out.next (ba _ _)).blk HM.out) h8 nm)
  have D1 := hid (deeds_1 (T.out.next (bd w1)) HM.out)
  have D2 := hid (deeds_2 T.out HM.out)
  go_enter Tryz.func86, Tryz.ntmps86
  go_upto_region 1 with fail
  go_cut [6, 7] from 8 to 15 (fun dv fv wx => ∃ b, dv = .pointer (some ⟨b, 0, none⟩) ∧ fv = .int .i64 (findN qs nm) ∧ Hid (Begun w wx (blkC b [fnV 134, .bool true] 170 :: pre) cs 3 nm tx n m))
  case first =>
   go_region_law (go_simp; first | (go_at_call 116; refine D1.out.mono ?_; rintro e w3 ⟨rfl, T3, hlt3, hlt4, s0, s1, F3, F4⟩) | (go_at_call 116; refine D2.out.mono ?_; rintro e w3 ⟨rfl, T3, hlt3, hlt4, s0, s1, F3, q0, q1, z0, z1⟩) | (go_at_call 83; refine F1.out.mono ?_; rintro e w4 ⟨rfl, hw4⟩; subst hw4) | (go_at_call 83; refine F2.out.mono ?_; rintro e w4 ⟨rfl, hw4⟩; subst hw4) | (go_at_call 83; refine (F3.out h8 nm).mono ?_; rintro e w4 ⟨rfl, hw4⟩; subst hw4) | (go_at_call 83; refine (F4.out h8 nm).mono ?_; rintro e w4 ⟨rfl, hw4⟩; subst hw4))
   all_goals (go_wp2_with fail; go_meet)
   all_goals first | exact ⟨_, rfl, rfl, begun_a T3.out⟩ | exact ⟨_, rfl, rfl, begun_b T3.out⟩ | skip
  case rest =>
  obtain ⟨b, rfl, rfl, TB⟩ := hcut
  clear F1 F2 D1 D2 hix hW o0 o1 T hz1 hz2
  have b0 := TB.out.b0
  have b1 := TB.out.b1
  have o0 := TB.out.o0
  have o1 := TB.out.o1
  have o2 := TB.out.o2
  have o3 := TB.out.o3
  have o4 := TB.out.o4
  go_wp2_with fail
  refine (HC.out _ _ TB.out.handed).mono ?_
  rintro e w5 ⟨c, x, so, sn, sc, post, rfl, hG, A5⟩
  have A6 := hid (handed_back A5)
  have HG := hid hG
  clear A5 hG TB b0 b1 o0 o1 o2 o3 o4
  have r0 := A6.out.r0
  have r1 := A6.out.r1
  have r2 := A6.out.r2
  have g0 := A6.out.rf 0
  have g1 := A6.out.rf 1
  have g2 := A6.out.rf 2
  have A8 := hid (A6.out.setR (.int .i64 c) (.int .i64 x) (.slice so sn sc))
  clear A6
  go_wp2
  generalize (((w5.setCell ⟨w.heap.size + 1, 0, none⟩ (.int .i64 c)).setCell ⟨w.heap.size + 1, 1, none⟩ (.int .i64 x)).setCell ⟨w.heap.size + 1, 2, none⟩ (.slice so sn sc)) = w6 at A8 ⊢
  clear r0 r1 r2
  have r0 := A8.out.r0
  have r1 := A8.out.r1
  have r2 := A8.out.r2
  refine bodyPost_ret (v := .tuple #[resV c x (.slice so sn sc), .int .i64 j]) (by rw [results_cell_tmp (fn := Tryz.f86) (p := 4) (u := 5) (ty := 41) rfl]; go_simp) rfl ?_
  exact ⟨c, x, so, sn, sc, post, rfl, HG.out, A8.out.tail.tail.tail⟩
end Go.Proofs.YtkcepkehgkkkbaaGreatDoor

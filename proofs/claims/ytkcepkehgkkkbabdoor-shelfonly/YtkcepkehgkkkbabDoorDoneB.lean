import Derived.Test.YtkcepkehgkkkbabDoorTake
import Derived.Deep.DeepCutAuto
namespace Go.Proofs.YtkcepkehgkkkbabDoor
open Go.RowKit
set_option linter.unusedVariables false
attribute [local go_sem] run_store_func run_store_nilf

/-- The op and the result lie in two blocks of their own, behind the parts. -/
structure Begun (w0 w : World) (pre cs : List Comp) (k : Int) (nm tx : ByteArray) (n m : Int) : Prop where
  all : All (blkC (w0.heap.size + 1) [.int .i64 0, .int .i64 0, .slice none 0 0] 30 :: blkC w0.heap.size [.int .i64 k, .string nm, .string tx, .int .i64 n, .int .i64 m] 35 :: (pre ++ cs)) w
theorem done_start {w : World} {pre cs : List Comp} (h : All (pre ++ cs) w) (nm tx : ByteArray) (n m : Int) (k : Int) : Begun w ((w.alloc (opB k nm tx n m)).alloc (.cells #[.int .i64 0, .int .i64 0, .slice none 0 0] 30)) pre cs k nm tx n m := by
  have h1 := (h.addBlk [.int .i64 k, .string nm, .string tx, .int .i64 n, .int .i64 m] 35).addBlk [.int .i64 0, .int .i64 0, .slice none 0 0] 30
  have hsz : (w.alloc (.cells [Value.int .i64 k, .string nm, .string tx, .int .i64 n, .int .i64 m].toArray 35)).heap.size = w.heap.size + 1 := by simp
  rw [hsz] at h1
  exact ⟨h1⟩
section
variable {w0 w w' : World} {pre cs : List Comp} {k : Int} {nm tx : ByteArray} {n m : Int}
theorem Begun.next (h : Begun w0 w pre cs k nm tx n m) (hb : Below w.heap.size w w') : Begun w0 w' pre cs k nm tx n m := ⟨h.all.later hb⟩
theorem Begun.d (h : Begun w0 w pre cs k nm tx n m) : Begun w0 w.drew pre cs k nm tx n m := h.next (bd w)
theorem Begun.op (h : Begun w0 w pre cs k nm tx n m) : w.heap[w0.heap.size]? = some (.cells [.int .i64 k, .string nm, .string tx, .int .i64 n, .int .i64 m].toArray 35 (0, 0)) := h.all.blk mem2
theorem Begun.o0 (h : Begun w0 w pre cs k nm tx n m) : w.cell? ⟨w0.heap.size, 0, none⟩ = some (.int .i64 k) := by rw [cell_at h.op]; rfl
theorem Begun.o1 (h : Begun w0 w pre cs k nm tx n m) : w.cell? ⟨w0.heap.size, 1, none⟩ = some (.string nm) := by rw [cell_at h.op]; rfl
theorem Begun.o2 (h : Begun w0 w pre cs k nm tx n m) : w.cell? ⟨w0.heap.size, 2, none⟩ = some (.string tx) := by rw [cell_at h.op]; rfl
theorem Begun.o3 (h : Begun w0 w pre cs k nm tx n m) : w.cell? ⟨w0.heap.size, 3, none⟩ = some (.int .i64 n) := by rw [cell_at h.op]; rfl
theorem Begun.o4 (h : Begun w0 w pre cs k nm tx n m) : w.cell? ⟨w0.heap.size, 4, none⟩ = some (.int .i64 m) := by rw [cell_at h.op]; rfl
theorem Begun.p0 (h : Begun w0 w pre cs k nm tx n m) : w.drew.cell? ⟨w0.heap.size, 0, none⟩ = some (.int .i64 k) := h.o0
theorem Begun.p1 (h : Begun w0 w pre cs k nm tx n m) : w.drew.cell? ⟨w0.heap.size, 1, none⟩ = some (.string nm) := h.o1
theorem Begun.blk (h : Begun w0 w pre cs k nm tx n m) {P : Nat} {qs : List Qv} (hm : blkC P (flat qs) 56 ∈ pre) : w.heap[P]? = some (.cells (flat qs).toArray 56 (0, 0)) := h.all.blk (List.mem_cons_of_mem _ (List.mem_cons_of_mem _ (List.mem_append_left _ hm)))
theorem Begun.lt (h : Begun w0 w pre cs k nm tx n m) : w0.heap.size + 1 < w.heap.size := h.all.1.2.2 _ (by simp [blkC])
abbrev findsAt (P : Nat) (qs : List Qv) (w : World) : Prop := qs.length = 8 → ∀ nm : ByteArray, Calls Tryd.prog 26 #[.pointer (some ⟨P, 0, none⟩), .string nm] w fun e w' => e = .returned (.int .i64 (findN qs nm)) ∧ w' = w
theorem deeds_1 (h : Begun w0 w pre cs k nm tx n m) {P : Nat} {qs : List Qv} (hm : blkC P (flat qs) 56 ∈ pre) : Calls Tryd.prog 25 #[] w fun e w' => e = .returned deedsV ∧ Hid (Begun w0 w' pre cs k nm tx n m) ∧ w0.heap.size + 1 < w'.heap.size ∧ w0.heap.size < w'.heap.size ∧ w'.cell? ⟨w0.heap.size, 0, none⟩ = some (.int .i64 k) ∧ w'.cell? ⟨w0.heap.size, 1, none⟩ = some (.string nm) ∧ Hid (findsAt P qs w') ∧ Hid (findsAt P qs (w'.alloc (.cells #[.nilFunc, .bool false] 70))) :=
  deeds_any.mono fun e w' ⟨h1, h2⟩ => by
    have h3 := h.next h2
    exact ⟨h1, h3, h3.lt, Nat.lt_of_succ_lt h3.lt, h3.o0, h3.o1, fun h8 nm => find_any (h3.blk hm) h8 nm, fun h8 nm => find_any ((h3.next (ba _ _)).blk hm) h8 nm⟩
theorem deeds_2 (h : Begun w0 w pre cs k nm tx n m) {P : Nat} {qs : List Qv} (hm : blkC P (flat qs) 56 ∈ pre) : Calls Tryd.prog 25 #[] (w.alloc (.cells #[.nilFunc, .bool false] 70)).drew fun e w' => e = .returned deedsV ∧ Hid (Begun w0 w' (blkC w.heap.size [.nilFunc, .bool false] 70 :: pre) cs k nm tx n m) ∧ w0.heap.size + 1 < w'.heap.size ∧ w0.heap.size < w'.heap.size ∧ w'.cell? ⟨w0.heap.size, 0, none⟩ = some (.int .i64 k) ∧ w'.cell? ⟨w0.heap.size, 1, none⟩ = some (.string nm) ∧ Hid (findsAt P qs w') ∧ w'.cell? ⟨w.heap.size, 0, none⟩ = some .nilFunc ∧ w'.cell? ⟨w.heap.size, 1, none⟩ = some (.bool false) ∧ w'.frozen? ⟨w.heap.size, 0, none⟩ = false ∧ w'.frozen? ⟨w.heap.size, 1, none⟩ = false :=
  deeds_any.mono fun e w' ⟨h1, h2⟩ => by
    have hb := (h.all.addBlk [.nilFunc, .bool false] 70).drew.later h2
    have hb' : All (blkC (w0.heap.size + 1) [.int .i64 0, .int .i64 0, .slice none 0 0] 30 :: blkC w0.heap.size [.int .i64 k, .string nm, .string tx, .int .i64 n, .int .i64 m] 35 :: ((blkC w.heap.size [.nilFunc, .bool false] 70 :: pre) ++ cs)) w' :=
      hb.perm (List.perm_middle (a := blkC w.heap.size [.nilFunc, .bool false] 70) (l₁ := [blkC (w0.heap.size + 1) [.int .i64 0, .int .i64 0, .slice none 0 0] 30, blkC w0.heap.size [.int .i64 k, .string nm, .string tx, .int .i64 n, .int .i64 m] 35])).symm
    have h3 : Begun w0 w' (blkC w.heap.size [.nilFunc, .bool false] 70 :: pre) cs k nm tx n m := ⟨hb'⟩
    have hd := hb.blk List.mem_cons_self
    exact ⟨h1, h3, h3.lt, Nat.lt_of_succ_lt h3.lt, h3.o0, h3.o1, fun h8 nm => find_any (h3.blk (List.mem_cons_of_mem _ hm)) h8 nm, by rw [cell_at hd]; rfl, by rw [cell_at hd]; rfl, free_at hd 0, free_at hd 1⟩
theorem begun_a {d : Nat} {f : Nat} {x : Bool} (h : Begun w0 w (blkC d [.nilFunc, .bool false] 70 :: pre) cs k nm tx n m) : Hid (Begun w0 ((w.setCell ⟨d, 0, none⟩ (fnV f)).setCell ⟨d, 1, none⟩ (.bool x)) (blkC d [fnV f, .bool x] 70 :: pre) cs k nm tx n m) := by
  have p := List.perm_middle (a := blkC d [.nilFunc, .bool false] 70) (l₁ := [blkC (w0.heap.size + 1) [.int .i64 0, .int .i64 0, .slice none 0 0] 30, blkC w0.heap.size [.int .i64 k, .string nm, .string tx, .int .i64 n, .int .i64 m] 35]) (l₂ := pre ++ cs)
  have h1 := ((h.all.perm p).setBlk 0 (fnV f)).setBlk 1 (.bool x)
  exact ⟨h1.perm (List.perm_middle (a := blkC d [fnV f, .bool x] 70) (l₁ := [blkC (w0.heap.size + 1) [.int .i64 0, .int .i64 0, .slice none 0 0] 30, blkC w0.heap.size [.int .i64 k, .string nm, .string tx, .int .i64 n, .int .i64 m] 35]) (l₂ := pre ++ cs)).symm⟩
theorem begun_b {f : Nat} {x : Bool} (h : Begun w0 w pre cs k nm tx n m) : Hid (Begun w0 (w.alloc (.cells #[fnV f, .bool x] 70)) (blkC w.heap.size [fnV f, .bool x] 70 :: pre) cs k nm tx n m) := by
  have h1 := h.all.addBlk [fnV f, .bool x] 70
  exact ⟨h1.perm (List.perm_middle (a := blkC w.heap.size [fnV f, .bool x] 70) (l₁ := [blkC (w0.heap.size + 1) [.int .i64 0, .int .i64 0, .slice none 0 0] 30, blkC w0.heap.size [.int .i64 k, .string nm, .string tx, .int .i64 n, .int .i64 m] 35]) (l₂ := pre ++ cs)).symm⟩
theorem Begun.b0 {d : Nat} {a b : Value} (h : Begun w0 w (blkC d [a, b] 70 :: pre) cs k nm tx n m) : w.cell? ⟨d, 0, none⟩ = some a := by rw [cell_at (h.all.blk (List.mem_cons_of_mem _ mem2))]; rfl
theorem Begun.b1 {d : Nat} {a b : Value} (h : Begun w0 w (blkC d [a, b] 70 :: pre) cs k nm tx n m) : w.cell? ⟨d, 1, none⟩ = some b := by rw [cell_at (h.all.blk (List.mem_cons_of_mem _ mem2))]; rfl
theorem Begun.handed {c : Comp} (h : Begun w0 w (c :: pre) cs k nm tx n m) : All (pre ++ ([blkC (w0.heap.size + 1) [.int .i64 0, .int .i64 0, .slice none 0 0] 30, blkC w0.heap.size [.int .i64 k, .string nm, .string tx, .int .i64 n, .int .i64 m] 35, c] ++ cs)) w := by
  have h1 := h.all
  refine h1.perm ?_
  have : ([blkC (w0.heap.size + 1) [.int .i64 0, .int .i64 0, .slice none 0 0] 30, blkC w0.heap.size [.int .i64 k, .string nm, .string tx, .int .i64 n, .int .i64 m] 35, c] ++ pre ++ cs).Perm (pre ++ [blkC (w0.heap.size + 1) [.int .i64 0, .int .i64 0, .slice none 0 0] 30, blkC w0.heap.size [.int .i64 k, .string nm, .string tx, .int .i64 n, .int .i64 m] 35, c] ++ cs) := List.perm_append_comm.append_right cs
  simpa using this
theorem handed_back {a b c : Comp} {post : List Comp} (h : All (post ++ ([a, b, c] ++ cs)) w) : All (a :: b :: c :: (post ++ cs)) w := by
  refine h.perm ?_
  have : (post ++ [a, b, c] ++ cs).Perm ([a, b, c] ++ post ++ cs) := List.perm_append_comm.append_right cs
  simpa using this
end
end Go.Proofs.YtkcepkehgkkkbabDoor

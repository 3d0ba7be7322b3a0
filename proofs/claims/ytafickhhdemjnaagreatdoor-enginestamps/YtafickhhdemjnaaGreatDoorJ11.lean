import Derived.Test.YtafickhhdemjnaaGreatDoorJ10
import Derived.Test.YtafickhhdemjnaaGreatDoorJ5
import Derived.Deep.DeepCutAuto
namespace Go.Proofs.YtafickhhdemjnaaGreatDoor
open Go.RowKit
set_option linter.unusedVariables false

theorem getD_toNat_inj {l l' : List UInt8} {k : Nat} (h : ((l.getD k 0).toNat : Int) = ((l'.getD k 0).toNat : Int)) : l.getD k 0 = l'.getD k 0 := by
  have : (l.getD k 0).toNat = (l'.getD k 0).toNat := by omega
  exact UInt8.toNat_inj.1 this
theorem ext_getD {l l' : List UInt8} (hl : l.length = l'.length) (h : ∀ j, j < l.length → l.getD j 0 = l'.getD j 0) : l = l' := by
  refine List.ext_getElem hl fun j h1 h2 => ?_
  have := h j h1
  rw [List.getD_eq_getElem?_getD, List.getD_eq_getElem?_getD, List.getElem?_eq_getElem h1, List.getElem?_eq_getElem h2] at this
  simpa using this

set_option maxHeartbeats 1600000 in
set_option maxRecDepth 1000000 in
/-- Two lists compared. -/
theorem same_dec {w : World} {s t : Value} {l l' : List UInt8} (hs : Reads w s l) (ht : Reads w t l') (hlen : l.length ≤ 140737488355328) :
    Calls Tryz.prog 32 #[s, t] w fun e w' => e = .returned (.bool (decide (l = l'))) ∧ ∃ q, w' = w.drewN q := by
  by_cases hll : l.length = l'.length
  · obtain ⟨ao, c, hf⟩ := hs.form
    obtain ⟨ao', c', hf'⟩ := ht.form
    rw [← hll] at hf'
    subst hf hf'
    have HS := hid hs
    have HT := hid ht
    have HLL := hid hll
    clear hs ht hll
    go_enter Tryz.func32, Tryz.ntmps32
    go_wp2
    go_loopw [5] (fun iv wr => ∃ (k q : Nat), k ≤ l.length ∧ iv = .int .i64 (k : Int) ∧ Hid (∀ j, j < k → l.getD j 0 = l'.getD j 0) ∧ wr = w.drewN q) (fun iv _ => l.length - (intOf iv).toNat)
    case atStart => exact ⟨0, 0, by omega, rfl, hid (fun j hj => absurd hj (Nat.not_lt_zero _)), rfl⟩
    case round =>
      obtain ⟨k, q, hk, rfl, HE, rfl⟩ := hrel
      by_cases hlt : k < l.length
      · obtain ⟨g, o, rfl, h1⟩ := HS.out.at_u8 k hlt
        obtain ⟨g', o', e', h2⟩ := HT.out.at_u8 k (by have := HLL.out; omega)
        subst e'
        by_cases hx : l.getD k 0 = l'.getD k 0
        · have HX := hid hx
          rw [← hx] at h2
          clear hx
          generalize (l.getD k 0).toNat = x at h1 h2
          have hb : ((x : Int) != (x : Int)) = false := by simp
          go_wp2
          go_region
          go_wp2
          go_roundw
          case rel =>
            refine ⟨k + 1, q + 1, by omega, by go_num, hid (fun j hj => ?_), by simp⟩
            by_cases e : j = k
            · subst e; exact HX.out
            · exact HE.out j (by omega)
          case measure => simp [intOf]; omega
        · have HX := hid hx
          have hb : (((l.getD k 0).toNat : Int) != ((l'.getD k 0).toNat : Int)) = true := by
            simp only [bne_iff_ne, ne_eq]
            exact fun h => hx (getD_toNat_inj h)
          clear hx
          generalize (l.getD k 0).toNat = x at h1 hb
          generalize (l'.getD k 0).toNat = y at h2 hb
          go_wp2
          go_region
          go_wp2
          go_ret
          refine ⟨?_, q + 1, by simp⟩
          have : ¬ l = l' := fun e => HX.out (by rw [e])
          rw [decide_eq_false this]
          rfl
      · have hke : k = l.length := by omega
        have hEq : l = l' := ext_getD HLL.out (fun j hj => HE.out j (by omega))
        have HD := hid (show decide (l = l') = true from decide_eq_true hEq)
        clear hEq hke
        go_wp2
        go_ret
        exact ⟨by rw [HD.out]; rfl, _, rfl⟩
  · obtain ⟨ao, c, hf⟩ := hs.form
    obtain ⟨ao', c', hf'⟩ := ht.form
    subst hf hf'
    have hD : decide (l = l') = false := decide_eq_false (fun e => hll (by rw [e]))
    rw [hD]
    have hb : ((l.length : Int) != (l'.length : Int)) = true := by
      simp only [bne_iff_ne, ne_eq]
      omega
    clear hs ht hD
    generalize l.length = a at *
    generalize l'.length = b at *
    go_enter Tryz.func32, Tryz.ntmps32
    go_wp2
    go_ret
    exact ⟨rfl, 0, rfl⟩
end Go.Proofs.YtafickhhdemjnaaGreatDoor

namespace Go.Proofs.YtafickhhdemjnaaGreatDoor
open Go.RowKit
set_option linter.unusedVariables false
attribute [local go_sem] run_store_func run_store_nilf

/-- The op and the result lie in two blocks of their own, behind the parts. -/
structure Begun (w0 w : World) (pre cs : List Comp) (k : Int) (nm tx : ByteArray) (n m : Int) : Prop where
  all : All (blkC (w0.heap.size + 1) [.int .i64 0, .int .i64 0, .slice none 0 0] 56 :: blkC w0.heap.size [.int .i64 k, .string nm, .string tx, .int .i64 n, .int .i64 m] 34 :: (pre ++ cs)) w
theorem done_start {w : World} {pre cs : List Comp} (h : All (pre ++ cs) w) (nm tx : ByteArray) (n m : Int) (k : Int) : Begun w ((w.alloc (opB k nm tx n m)).alloc (.cells #[.int .i64 0, .int .i64 0, .slice none 0 0] 56)) pre cs k nm tx n m := by
  have h1 := (h.addBlk [.int .i64 k, .string nm, .string tx, .int .i64 n, .int .i64 m] 34).addBlk [.int .i64 0, .int .i64 0, .slice none 0 0] 56
  have hsz : (w.alloc (.cells [Value.int .i64 k, .string nm, .string tx, .int .i64 n, .int .i64 m].toArray 34)).heap.size = w.heap.size + 1 := by simp
  rw [hsz] at h1
  exact ⟨h1⟩
section
variable {w0 w w' : World} {pre cs : List Comp} {k : Int} {nm tx : ByteArray} {n m : Int}
theorem Begun.next (h : Begun w0 w pre cs k nm tx n m) (hb : Below w.heap.size w w') : Begun w0 w' pre cs k nm tx n m := ⟨h.all.later hb⟩
theorem Begun.d (h : Begun w0 w pre cs k nm tx n m) : Begun w0 w.drew pre cs k nm tx n m := h.next (bd w)
theorem Begun.op (h : Begun w0 w pre cs k nm tx n m) : w.heap[w0.heap.size]? = some (.cells [.int .i64 k, .string nm, .string tx, .int .i64 n, .int .i64 m].toArray 34 (0, 0)) := h.all.blk mem2
theorem Begun.o0 (h : Begun w0 w pre cs k nm tx n m) : w.cell? ⟨w0.heap.size, 0, none⟩ = some (.int .i64 k) := by rw [cell_at h.op]; rfl
theorem Begun.o1 (h : Begun w0 w pre cs k nm tx n m) : w.cell? ⟨w0.heap.size, 1, none⟩ = some (.string nm) := by rw [cell_at h.op]; rfl
theorem Begun.o2 (h : Begun w0 w pre cs k nm tx n m) : w.cell? ⟨w0.heap.size, 2, none⟩ = some (.string tx) := by rw [cell_at h.op]; rfl
theorem Begun.o3 (h : Begun w0 w pre cs k nm tx n m) : w.cell? ⟨w0.heap.size, 3, none⟩ = some (.int .i64 n) := by rw [cell_at h.op]; rfl
theorem Begun.o4 (h : Begun w0 w pre cs k nm tx n m) : w.cell? ⟨w0.heap.size, 4, none⟩ = some (.int .i64 m) := by rw [cell_at h.op]; rfl
theorem Begun.p0 (h : Begun w0 w pre cs k nm tx n m) : w.drew.cell? ⟨w0.heap.size, 0, none⟩ = some (.int .i64 k) := h.o0
theorem Begun.p1 (h : Begun w0 w pre cs k nm tx n m) : w.drew.cell? ⟨w0.heap.size, 1, none⟩ = some (.string nm) := h.o1
theorem Begun.blk (h : Begun w0 w pre cs k nm tx n m) {P : Nat} {qs : List Qv} (hm : blkC P (flat qs) 159 ∈ pre) : w.heap[P]? = some (.cells (flat qs).toArray 159 (0, 0)) := h.all.blk (List.mem_cons_of_mem _ (List.mem_cons_of_mem _ (List.mem_append_left _ hm)))
theorem Begun.lt (h : Begun w0 w pre cs k nm tx n m) : w0.heap.size + 1 < w.heap.size := h.all.1.2.2 _ (by simp [blkC])
abbrev findsAt (P : Nat) (qs : List Qv) (w : World) : Prop := qs.length = 8 → ∀ nm : ByteArray, Calls Tryz.prog 119 #[.pointer (some ⟨P, 0, none⟩), .string nm] w fun e w' => e = .returned (.int .i64 (findN qs nm)) ∧ w' = w
theorem deeds_1 (h : Begun w0 w pre cs k nm tx n m) {P : Nat} {qs : List Qv} (hm : blkC P (flat qs) 159 ∈ pre) : Calls Tryz.prog 118 #[] w fun e w' => e = .returned deedsV ∧ Hid (Begun w0 w' pre cs k nm tx n m) ∧ w0.heap.size + 1 < w'.heap.size ∧ w0.heap.size < w'.heap.size ∧ w'.cell? ⟨w0.heap.size, 0, none⟩ = some (.int .i64 k) ∧ w'.cell? ⟨w0.heap.size, 1, none⟩ = some (.string nm) ∧ Hid (findsAt P qs w') ∧ Hid (findsAt P qs (w'.alloc (.cells #[.nilFunc, .bool false] 194))) :=
  deeds_any.mono fun e w' ⟨h1, h2⟩ => by
    have h3 := h.next h2
    exact ⟨h1, h3, h3.lt, Nat.lt_of_succ_lt h3.lt, h3.o0, h3.o1, fun h8 nm => find_any (h3.blk hm) h8 nm, fun h8 nm => find_any ((h3.next (ba _ _)).blk hm) h8 nm⟩
theorem deeds_2 (h : Begun w0 w pre cs k nm tx n m) {P : Nat} {qs : List Qv} (hm : blkC P (flat qs) 159 ∈ pre) : Calls Tryz.prog 118 #[] (w.alloc (.cells #[.nilFunc, .bool false] 194)).drew fun e w' => e = .returned deedsV ∧ Hid (Begun w0 w' (blkC w.heap.size [.nilFunc, .bool false] 194 :: pre) cs k nm tx n m) ∧ w0.heap.size + 1 < w'.heap.size ∧ w0.heap.size < w'.heap.size ∧ w'.cell? ⟨w0.heap.size, 0, none⟩ = some (.int .i64 k) ∧ w'.cell? ⟨w0.heap.size, 1, none⟩ = some (.string nm) ∧ Hid (findsAt P qs w') ∧ w'.cell? ⟨w.heap.size, 0, none⟩ = some .nilFunc ∧ w'.cell? ⟨w.heap.size, 1, none⟩ = some (.bool false) ∧ w'.frozen? ⟨w.heap.size, 0, none⟩ = false ∧ w'.frozen? ⟨w.heap.size, 1, none⟩ = false :=
  deeds_any.mono fun e w' ⟨h1, h2⟩ => by
    have hb := (h.all.addBlk [.nilFunc, .bool false] 194).drew.later h2
    have hb' : All (blkC (w0.heap.size + 1) [.int .i64 0, .int .i64 0, .slice none 0 0] 56 :: blkC w0.heap.size [.int .i64 k, .string nm, .string tx, .int .i64 n, .int .i64 m] 34 :: ((blkC w.heap.size [.nilFunc, .bool false] 194 :: pre) ++ cs)) w' :=
      hb.perm (List.perm_middle (a := blkC w.heap.size [.nilFunc, .bool false] 194) (l₁ := [blkC (w0.heap.size + 1) [.int .i64 0, .int .i64 0, .slice none 0 0] 56, blkC w0.heap.size [.int .i64 k, .string nm, .string tx, .int .i64 n, .int .i64 m] 34])).symm
    have h3 : Begun w0 w' (blkC w.heap.size [.nilFunc, .bool false] 194 :: pre) cs k nm tx n m := ⟨hb'⟩
    have hd := hb.blk List.mem_cons_self
    exact ⟨h1, h3, h3.lt, Nat.lt_of_succ_lt h3.lt, h3.o0, h3.o1, fun h8 nm => find_any (h3.blk (List.mem_cons_of_mem _ hm)) h8 nm, by rw [cell_at hd]; rfl, by rw [cell_at hd]; rfl, free_at hd 0, free_at hd 1⟩
theorem begun_a {d : Nat} {f : Nat} {x : Bool} (h : Begun w0 w (blkC d [.nilFunc, .bool false] 194 :: pre) cs k nm tx n m) : Hid (Begun w0 ((w.setCell ⟨d, 0, none⟩ (fnV f)).setCell ⟨d, 1, none⟩ (.bool x)) (blkC d [fnV f, .bool x] 194 :: pre) cs k nm tx n m) := by
  have p := List.perm_middle (a := blkC d [.nilFunc, .bool false] 194) (l₁ := [blkC (w0.heap.size + 1) [.int .i64 0, .int .i64 0, .slice none 0 0] 56, blkC w0.heap.size [.int .i64 k, .string nm, .string tx, .int .i64 n, .int .i64 m] 34]) (l₂ := pre ++ cs)
  have h1 := ((h.all.perm p).setBlk 0 (fnV f)).setBlk 1 (.bool x)
  exact ⟨h1.perm (List.perm_middle (a := blkC d [fnV f, .bool x] 194) (l₁ := [blkC (w0.heap.size + 1) [.int .i64 0, .int .i64 0, .slice none 0 0] 56, blkC w0.heap.size [.int .i64 k, .string nm, .string tx, .int .i64 n, .int .i64 m] 34]) (l₂ := pre ++ cs)).symm⟩
theorem begun_b {f : Nat} {x : Bool} (h : Begun w0 w pre cs k nm tx n m) : Hid (Begun w0 (w.alloc (.cells #[fnV f, .bool x] 194)) (blkC w.heap.size [fnV f, .bool x] 194 :: pre) cs k nm tx n m) := by
  have h1 := h.all.addBlk [fnV f, .bool x] 194
  exact ⟨h1.perm (List.perm_middle (a := blkC w.heap.size [fnV f, .bool x] 194) (l₁ := [blkC (w0.heap.size + 1) [.int .i64 0, .int .i64 0, .slice none 0 0] 56, blkC w0.heap.size [.int .i64 k, .string nm, .string tx, .int .i64 n, .int .i64 m] 34]) (l₂ := pre ++ cs)).symm⟩
theorem Begun.b0 {d : Nat} {a b : Value} (h : Begun w0 w (blkC d [a, b] 194 :: pre) cs k nm tx n m) : w.cell? ⟨d, 0, none⟩ = some a := by rw [cell_at (h.all.blk (List.mem_cons_of_mem _ mem2))]; rfl
theorem Begun.b1 {d : Nat} {a b : Value} (h : Begun w0 w (blkC d [a, b] 194 :: pre) cs k nm tx n m) : w.cell? ⟨d, 1, none⟩ = some b := by rw [cell_at (h.all.blk (List.mem_cons_of_mem _ mem2))]; rfl
theorem Begun.handed {c : Comp} (h : Begun w0 w (c :: pre) cs k nm tx n m) : All (pre ++ ([blkC (w0.heap.size + 1) [.int .i64 0, .int .i64 0, .slice none 0 0] 56, blkC w0.heap.size [.int .i64 k, .string nm, .string tx, .int .i64 n, .int .i64 m] 34, c] ++ cs)) w := by
  have h1 := h.all
  refine h1.perm ?_
  have : ([blkC (w0.heap.size + 1) [.int .i64 0, .int .i64 0, .slice none 0 0] 56, blkC w0.heap.size [.int .i64 k, .string nm, .string tx, .int .i64 n, .int .i64 m] 34, c] ++ pre ++ cs).Perm (pre ++ [blkC (w0.heap.size + 1) [.int .i64 0, .int .i64 0, .slice none 0 0] 56, blkC w0.heap.size [.int .i64 k, .string nm, .string tx, .int .i64 n, .int .i64 m] 34, c] ++ cs) := List.perm_append_comm.append_right cs
  simpa using this
theorem handed_back {a b c : Comp} {post : List Comp} (h : All (post ++ ([a, b, c] ++ cs)) w) : All (a :: b :: c :: (post ++ cs)) w := by
  refine h.perm ?_
  have : (post ++ [a, b, c] ++ cs).Perm ([a, b, c] ++ post ++ cs) := List.perm_append_comm.append_right cs
  simpa using this
end
end Go.Proofs.YtafickhhdemjnaaGreatDoor

namespace Go.Proofs.YtafickhhdemjnaaGreatDoor
open Go.RowKit
set_option linter.unusedVariables false

section
variable {w0 w w' : World} {pre cs : List Comp} {k : Int} {nm tx : ByteArray} {n m : Int}
theorem Begun.handed2 (h : Begun w0 w pre cs k nm tx n m) : All (pre ++ ([blkC (w0.heap.size + 1) [.int .i64 0, .int .i64 0, .slice none 0 0] 56, blkC w0.heap.size [.int .i64 k, .string nm, .string tx, .int .i64 n, .int .i64 m] 34] ++ cs)) w := by
  have h1 := h.all
  refine h1.perm ?_
  have : ([blkC (w0.heap.size + 1) [.int .i64 0, .int .i64 0, .slice none 0 0] 56, blkC w0.heap.size [.int .i64 k, .string nm, .string tx, .int .i64 n, .int .i64 m] 34] ++ pre ++ cs).Perm (pre ++ [blkC (w0.heap.size + 1) [.int .i64 0, .int .i64 0, .slice none 0 0] 56, blkC w0.heap.size [.int .i64 k, .string nm, .string tx, .int .i64 n, .int .i64 m] 34] ++ cs) := List.perm_append_comm.append_right cs
  simpa using this
theorem handed_back2 {a b : Comp} {post : List Comp} (h : All (post ++ ([a, b] ++ cs)) w) : All (a :: b :: (post ++ cs)) w := by
  refine h.perm ?_
  have : (post ++ [a, b] ++ cs).Perm ([a, b] ++ post ++ cs) := List.perm_append_comm.append_right cs
  simpa using this
end

/-- The table of forms as a part. -/
def tabC : Comp := ⟨Tab, [0]⟩
theorem tabC_good : tabC.Good := by
  intro w w' h hl hk
  have h0 : w'.heap[0]? = w.heap[0]? := hk 0 (by simp [tabC])
  refine ⟨Nat.lt_of_lt_of_le h.lt hl.size, fun i hi => ?_⟩
  have := h.cell i hi
  simp only [World.cell?, h0] at this ⊢
  exact this

/-- What Check tells of a kind that may be. -/
def chkT (k : Nat) (s t n m : Int) : Int := chkR (formN.getD (k * 8) 0) (formN.getD (k * 8 + 1) 0) (formN.getD (k * 8 + 2) 0) (formN.getD (k * 8 + 3) 0) (formN.getD (k * 8 + 4) 0) (formN.getD (k * 8 + 5) 0) (formN.getD (k * 8 + 6) 0) (formN.getD (k * 8 + 7) 0) s t n m

theorem check_tab {w : World} (h : Tab w) (k : Nat) (h1 : 1 ≤ k) (h8 : k ≤ 8) (nm tx : ByteArray) (n m : Int) : Calls Tryz.prog 80 #[opV k nm tx n m] w fun e w' => e = .returned (.int .i64 (chkT k nm.size tx.size n m)) ∧ Below w.heap.size w w' :=
  check_row k h1 h8 nm tx n m _ _ _ _ _ _ _ _ (h.cell _ (by omega)) (h.cell _ (by omega)) (h.cell _ (by omega)) (h.cell _ (by omega)) (h.cell _ (by omega)) (h.cell _ (by omega)) (h.cell _ (by omega)) (h.cell _ (by omega)) h.lt

set_option maxHeartbeats 3200000 in
set_option maxRecDepth 1000000 in
theorem Do_of {P : Nat} {pre cs : List Comp} {w : World} (ht : ∀ w', All (pre ++ cs) w' → Tab w') (k : Nat) (h1 : 1 ≤ k) (h8 : k ≤ 8) (nm tx : ByteArray) (n m : Int) (hk : chkT k nm.size tx.size n m = 0) {j : Int} {G : Int → Int → Value → List Comp → Prop}
    (hc : ∀ (cs' : List Comp) (w' : World), All (pre ++ cs') w' → Calls Tryz.prog 82 #[.pointer (some ⟨P, 0, none⟩), opV k nm tx n m] w' fun e w'' => ∃ c x so sn sc post, e = .returned (.tuple #[resV c x (.slice so sn sc), .int .i64 j]) ∧ G c x (.slice so sn sc) post ∧ All (post ++ cs') w'')
    (h : All (pre ++ cs) w) :
    Calls Tryz.prog 122 #[.pointer (some ⟨P, 0, none⟩), opV k nm tx n m] w fun e w'' => ∃ c x so sn sc post, e = .returned (.tuple #[resV c x (.slice so sn sc), .int .i64 j, .int .i64 0]) ∧ G c x (.slice so sn sc) post ∧ All (post ++ cs) w'' := by
  have T := hid (done_start h nm tx n m k)
  have HC := hid hc
  have HK := hid hk
  have hT : Tab ((w.alloc (opB k nm tx n m)).alloc (.cells #[.int .i64 0, .int .i64 0, .slice none 0 0] 56)) := ht _ T.out.all.tail.tail
  have HT := hid hT
  clear h hc hk hT
  go_enter Tryz.func122, Tryz.ntmps122
  go_wp2_with fail
  refine (check_tab HT.out k h1 h8 nm tx n m).mono ?_
  rw [HK.out]
  rintro e w2 ⟨rfl, B2⟩
  have T2 := hid (T.out.next B2)
  clear B2 T HT
  have o0 := T2.out.o0
  have o1 := T2.out.o1
  have o2 := T2.out.o2
  have o3 := T2.out.o3
  have o4 := T2.out.o4
  go_wp2_with fail
  refine (HC.out _ _ T2.out.handed2).mono ?_
  rintro e w5 ⟨c, x, so, sn, sc, post, rfl, hG, A5⟩
  have A6 := hid (handed_back2 A5)
  have HG := hid hG
  clear A5 hG T2 o0 o1 o2 o3 o4
  have A7 := hid ((A6.out.setR (.int .i64 c) (.int .i64 x) (.slice so sn sc)).alloc (.cells #[.int .i64 c, .int .i64 x, .slice so sn sc] 56))
  have hR : w.heap.size + 1 < w5.heap.size := A6.out.1.2.2 _ (by simp [blkC])
  have r0 := A6.out.r0
  have r1 := A6.out.r1
  have r2 := A6.out.r2
  have g0 := A6.out.rf 0
  have g1 := A6.out.rf 1
  have g2 := A6.out.rf 2
  clear A6
  go_wp2
  generalize (((w5.setCell ⟨w.heap.size + 1, 0, none⟩ (.int .i64 c)).setCell ⟨w.heap.size + 1, 1, none⟩ (.int .i64 x)).setCell ⟨w.heap.size + 1, 2, none⟩ (.slice so sn sc)).alloc (.cells #[.int .i64 c, .int .i64 x, .slice so sn sc] 56) = w6 at A7 ⊢
  clear r0 r1 r2
  have r0 := A7.out.r0
  have r1 := A7.out.r1
  have r2 := A7.out.r2
  refine bodyPost_ret (v := .tuple #[resV c x (.slice so sn sc), .int .i64 j, .int .i64 0]) (by simp only [results, Tryz.f122]; go_simp) rfl ?_
  exact ⟨c, x, so, sn, sc, post, rfl, HG.out, A7.out.tail.tail⟩
end Go.Proofs.YtafickhhdemjnaaGreatDoor

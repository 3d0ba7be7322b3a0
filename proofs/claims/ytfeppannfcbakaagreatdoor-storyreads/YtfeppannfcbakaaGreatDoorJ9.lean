import Derived.Test.YtfeppannfcbakaaGreatDoorJ8
import Derived.Deep.WholeRow
import Derived.Test.YtfeppannfcbakaaGreatDoorJ6
import Derived.Test.YtfeppannfcbakaaGreatDoorJ4
namespace Go.Proofs.YtfeppannfcbakaaGreatDoor
open Go.RowKit
set_option linter.unusedVariables false
set_option maxRecDepth 1000000
set_option maxHeartbeats 3200000
inductive Ct where
 | none | int (v : Int) | bool (b : Bool) | dat (d : List UInt8) | op (x : OpR) | res (c n : Int) (l : Ws)
def rd1 (t : Th) (l : Ws) : Int × Nat × Ct := match t with
 | .op _ => ((readO l).e, (readO l).k, .op (readO l).o)
 | .res _ => ((readR l).e, (readR l).k, .res (readR l).c (readR l).n (readR l).items)
 | .int _ => match l with
   | [] => (190, 0, .none)
   | x :: _ => (if (numW x).isSome then 0 else 190, 1, .int (((numW x).getD 0 : Nat) : Int))
 | .cod _ => match l with
   | [] => (190, 0, .none)
   | x :: _ => (if (numW x).isSome then 0 else 190, 1, .int (((numW x).getD 0 : Nat) : Int))
 | .sta _ => match l with
   | [] => (190, 0, .none)
   | x :: _ => (if (stW x).isSome then 0 else 190, 1, .int (((stW x).getD 0 : Nat) : Int))
 | .fre _ => match l with
   | [] => (190, 0, .none)
   | x :: _ => (if decide (x = [102, 114, 101, 115, 104]) || decide (x = [111, 108, 100]) then 0 else 190, 1, .bool (decide (x = [102, 114, 101, 115, 104])))
 | .dat _ => match l with
   | [] => (190, 0, .none)
   | x :: _ => (if (datR x).isSome then 0 else 190, 1, .dat ((datR x).getD []))
 | _ => (0, 0, .none)
def putC (C : List Value) (t : Th) (x : Ct) (v : Value) : List Value := match t, x with
 | .int o, .int a => C.set o (.int .i64 a)
 | .cod o, .int a => C.set o (.int .i64 a)
 | .sta o, .int a => C.set o (.int .i64 a)
 | .fre o, .bool b => C.set o (.bool b)
 | .dat o, .dat _ => C.set o v
 | .op o, .op x => setOp C o x
 | .res o, .res c n _ => setRes C o c n v
 | _, _ => C
def ownOf (x : Ct) (v : Value) : List Comp := match x with
 | .dat d => [ownC 5 v (cellsB d)]
 | .res _ _ l => [ownC 9 v (txW l)]
 | _ => []
def offT : Th → Nat
 | .int o => o | .cod o => o | .fre o => o | .sta o => o | .dat o => o | .op o => o + 4 | .res o => o + 2 | .look o => o + 7 | .sht o => o + 2
def TRPost (R P : Nat) (w0 : World) (C : List Value) (t : Th) (l : Ws) (cs : List Comp) (e : Ending) (w' : World) : Prop :=
 e = .returned (.int .i64 (rd1 t l).1) ∧ ∃ s' v, Rt w0 s' (l.drop (rd1 t l).2.1) ∧ All (blkC R [s'] 124 :: blkC P (putC C t (rd1 t l).2.2 v) 36 :: (ownOf (rd1 t l).2.2 v ++ cs)) w'
theorem thing_flat {R P : Nat} {t : Th} {s : Value} {l : Ws} {C : List Value} {cs : List Comp} {w w0 : World} (hf : flatT t = true) (hE : ∀ W, All cs W → En W) (h0 : Rt w0 s l) (hi : inC w0 ∈ cs) (hl : l.length * 16 ≤ 140737488355328) (hs : ∀ x ∈ l, x.length ≤ 140737488355328) (ho : offT t < C.length) (A : All (blkC R [s] 124 :: blkC P C 36 :: cs) w) :
   Calls Tryz.prog 106 #[.pointer (some ⟨R, 0, none⟩), thV P t] w (TRPost R P w0 C t l cs) := by
 cases t with
 | op o =>
   have CO := hid (rop_any (o := o) hE h0 hi (by omega) hs (by simp only [offT] at ho; omega) A)
   clear A hE h0 hi hl hs ho
   simp only [thV]
   unfold TRPost
   simp only [rd1, putC, ownOf, List.nil_append]
   generalize readO l = r at *
   generalize setOp C o r.o = C2 at *
   have ta0 : ∀ W : World, (Instr.typeAssert (.iface 99 (.pointer (some ⟨P, o, none⟩))) 20 99 true).run Tryz.prog W = .ok (.tuple #[.pointer (some ⟨P, o, none⟩), .bool true]) W := fun W => by kernel_rfl
   go_enter Tryz.func106, Tryz.ntmps106
   go_wp2_with (go_at_call 131; refine CO.out.mono ?_; rintro e w1 ⟨rfl, s1, R1, A1⟩; have K1 := hid A1; have RR1 := hid R1; clear A1 R1)
   go_ret
   first | exact ⟨rfl, _, RR1.out, K1.out⟩ | exact ⟨rfl, _, .bool false, RR1.out, K1.out⟩
 | res o =>
   have CO := hid (rres_any (o := o) hE h0 hi hl hs (by simp only [offT] at ho; omega) A)
   clear A hE h0 hi hl hs ho
   simp only [thV]
   unfold TRPost
   simp only [rd1, putC, ownOf, List.cons_append, List.nil_append]
   generalize readR l = r at *
   have ta0 : ∀ W : World, (Instr.typeAssert (.iface 100 (.pointer (some ⟨P, o, none⟩))) 20 99 true).run Tryz.prog W = .ok (.tuple #[.pointer none, .bool false]) W := fun W => by kernel_rfl
   have ta1 : ∀ W : World, (Instr.typeAssert (.iface 100 (.pointer (some ⟨P, o, none⟩))) 20 100 true).run Tryz.prog W = .ok (.tuple #[.pointer (some ⟨P, o, none⟩), .bool true]) W := fun W => by kernel_rfl
   go_enter Tryz.func106, Tryz.ntmps106
   go_wp2_with (go_at_call 132; refine CO.out.mono ?_; rintro e w1 ⟨rfl, s1, v1, R1, A1⟩; have K1 := hid A1; have RR1 := hid R1; clear A1 R1)
   go_ret
   first | exact ⟨rfl, _, RR1.out, _, K1.out⟩ | exact ⟨rfl, _, _, RR1.out, K1.out⟩
 | look o => exact absurd hf (by simp [flatT])
 | sht o => exact absurd hf (by simp [flatT])
 | int o =>
   cases l with
   | nil =>
     obtain ⟨ao, c, rfl⟩ := h0.form
     have CN := hid (next_nil (R := R) (ao := ao) (c := c) A)
     have HA := hid A
     have R0 := hid h0
     clear A hE h0 hi hl hs ho
     simp only [thV]
     unfold TRPost
     simp only [rd1, putC, ownOf, List.nil_append, List.drop_nil]
     have ta0 : ∀ W : World, (Instr.typeAssert (.iface 97 (.pointer (some ⟨P, o, none⟩))) 20 99 true).run Tryz.prog W = .ok (.tuple #[.pointer none, .bool false]) W := fun W => by kernel_rfl
     have ta1 : ∀ W : World, (Instr.typeAssert (.iface 97 (.pointer (some ⟨P, o, none⟩))) 20 100 true).run Tryz.prog W = .ok (.tuple #[.pointer none, .bool false]) W := fun W => by kernel_rfl
     have ta2 : ∀ W : World, (Instr.typeAssert (.iface 97 (.pointer (some ⟨P, o, none⟩))) 20 102 true).run Tryz.prog W = .ok (.tuple #[.pointer none, .bool false]) W := fun W => by kernel_rfl
     have ta3 : ∀ W : World, (Instr.typeAssert (.iface 97 (.pointer (some ⟨P, o, none⟩))) 20 103 true).run Tryz.prog W = .ok (.tuple #[.pointer none, .bool false]) W := fun W => by kernel_rfl
     go_enter Tryz.func106, Tryz.ntmps106
     go_wp2_with (go_at_call 71; refine CN.out.mono ?_; rintro e w1 ⟨rfl, h1⟩; subst w1)
     go_ret
     first | exact ⟨rfl, _, R0.out, HA.out⟩ | exact ⟨rfl, _, .bool false, R0.out, HA.out⟩
   | cons x r =>
     have hx := hs x (by simp)
     have CN := hid (next_cons A (h0.later (A.into (List.mem_cons_of_mem _ (List.mem_cons_of_mem _ hi)))) (by simp only [List.length_cons] at hl; omega))
     obtain ⟨z, hz⟩ : ∃ z, C[o]? = some z := ⟨_, List.getElem?_eq_getElem ho⟩
     have CW : Hid (∀ s' W, All (blkC R [s'] 124 :: blkC P C 36 :: cs) W → Calls Tryz.prog 133 #[thV P (.int o), .string ⟨x.toArray⟩] W (RWPost P o C ((numW x).isSome) (.int .i64 (((numW x).getD 0 : Nat) : Int)) (blkC R [s'] 124 :: cs))) := hid (fun s' W hW => rw_int (hE _ hW.tail.tail) hz hx hW.swap)
     have R0 := hid h0
     clear A hE hi hl hs ho hz h0 hx
     simp only [thV] at CW ⊢
     unfold TRPost
     simp only [rd1, putC, ownOf, List.nil_append, List.drop_succ_cons, List.drop_zero]
     unfold RWPost at CW
     generalize ByteArray.mk x.toArray = X at *
     generalize (numW x).isSome = B at *
     have ta0 : ∀ W : World, (Instr.typeAssert (.iface 97 (.pointer (some ⟨P, o, none⟩))) 20 99 true).run Tryz.prog W = .ok (.tuple #[.pointer none, .bool false]) W := fun W => by kernel_rfl
     have ta1 : ∀ W : World, (Instr.typeAssert (.iface 97 (.pointer (some ⟨P, o, none⟩))) 20 100 true).run Tryz.prog W = .ok (.tuple #[.pointer none, .bool false]) W := fun W => by kernel_rfl
     have ta2 : ∀ W : World, (Instr.typeAssert (.iface 97 (.pointer (some ⟨P, o, none⟩))) 20 102 true).run Tryz.prog W = .ok (.tuple #[.pointer none, .bool false]) W := fun W => by kernel_rfl
     have ta3 : ∀ W : World, (Instr.typeAssert (.iface 97 (.pointer (some ⟨P, o, none⟩))) 20 103 true).run Tryz.prog W = .ok (.tuple #[.pointer none, .bool false]) W := fun W => by kernel_rfl
     cases B
     all_goals
       go_enter Tryz.func106, Tryz.ntmps106
       go_wp2_with (first | (go_at_call 71; refine CN.out.mono ?_; rintro e w1 ⟨rfl, s1, R1, A1⟩; have K1 := hid A1; have RR1 := hid (R1 _ R0.out); clear A1 R1) | (go_at_call 133; refine (CW.out _ _ K1.out).mono ?_; rintro e w2 ⟨rfl, A2⟩; have K2 := hid A2.swap; clear A2))
       go_ret
       exact ⟨rfl, _, RR1.out, K2.out⟩
 | cod o =>
   cases l with
   | nil =>
     obtain ⟨ao, c, rfl⟩ := h0.form
     have CN := hid (next_nil (R := R) (ao := ao) (c := c) A)
     have HA := hid A
     have R0 := hid h0
     clear A hE h0 hi hl hs ho
     simp only [thV]
     unfold TRPost
     simp only [rd1, putC, ownOf, List.nil_append, List.drop_nil]
     have ta0 : ∀ W : World, (Instr.typeAssert (.iface 98 (.pointer (some ⟨P, o, none⟩))) 20 99 true).run Tryz.prog W = .ok (.tuple #[.pointer none, .bool false]) W := fun W => by kernel_rfl
     have ta1 : ∀ W : World, (Instr.typeAssert (.iface 98 (.pointer (some ⟨P, o, none⟩))) 20 100 true).run Tryz.prog W = .ok (.tuple #[.pointer none, .bool false]) W := fun W => by kernel_rfl
     have ta2 : ∀ W : World, (Instr.typeAssert (.iface 98 (.pointer (some ⟨P, o, none⟩))) 20 102 true).run Tryz.prog W = .ok (.tuple #[.pointer none, .bool false]) W := fun W => by kernel_rfl
     have ta3 : ∀ W : World, (Instr.typeAssert (.iface 98 (.pointer (some ⟨P, o, none⟩))) 20 103 true).run Tryz.prog W = .ok (.tuple #[.pointer none, .bool false]) W := fun W => by kernel_rfl
     go_enter Tryz.func106, Tryz.ntmps106
     go_wp2_with (go_at_call 71; refine CN.out.mono ?_; rintro e w1 ⟨rfl, h1⟩; subst w1)
     go_ret
     first | exact ⟨rfl, _, R0.out, HA.out⟩ | exact ⟨rfl, _, .bool false, R0.out, HA.out⟩
   | cons x r =>
     have hx := hs x (by simp)
     have CN := hid (next_cons A (h0.later (A.into (List.mem_cons_of_mem _ (List.mem_cons_of_mem _ hi)))) (by simp only [List.length_cons] at hl; omega))
     obtain ⟨z, hz⟩ : ∃ z, C[o]? = some z := ⟨_, List.getElem?_eq_getElem ho⟩
     have CW : Hid (∀ s' W, All (blkC R [s'] 124 :: blkC P C 36 :: cs) W → Calls Tryz.prog 133 #[thV P (.cod o), .string ⟨x.toArray⟩] W (RWPost P o C ((numW x).isSome) (.int .i64 (((numW x).getD 0 : Nat) : Int)) (blkC R [s'] 124 :: cs))) := hid (fun s' W hW => rw_cod (hE _ hW.tail.tail) hz hx hW.swap)
     have R0 := hid h0
     clear A hE hi hl hs ho hz h0 hx
     simp only [thV] at CW ⊢
     unfold TRPost
     simp only [rd1, putC, ownOf, List.nil_append, List.drop_succ_cons, List.drop_zero]
     unfold RWPost at CW
     generalize ByteArray.mk x.toArray = X at *
     generalize (numW x).isSome = B at *
     have ta0 : ∀ W : World, (Instr.typeAssert (.iface 98 (.pointer (some ⟨P, o, none⟩))) 20 99 true).run Tryz.prog W = .ok (.tuple #[.pointer none, .bool false]) W := fun W => by kernel_rfl
     have ta1 : ∀ W : World, (Instr.typeAssert (.iface 98 (.pointer (some ⟨P, o, none⟩))) 20 100 true).run Tryz.prog W = .ok (.tuple #[.pointer none, .bool false]) W := fun W => by kernel_rfl
     have ta2 : ∀ W : World, (Instr.typeAssert (.iface 98 (.pointer (some ⟨P, o, none⟩))) 20 102 true).run Tryz.prog W = .ok (.tuple #[.pointer none, .bool false]) W := fun W => by kernel_rfl
     have ta3 : ∀ W : World, (Instr.typeAssert (.iface 98 (.pointer (some ⟨P, o, none⟩))) 20 103 true).run Tryz.prog W = .ok (.tuple #[.pointer none, .bool false]) W := fun W => by kernel_rfl
     cases B
     all_goals
       go_enter Tryz.func106, Tryz.ntmps106
       go_wp2_with (first | (go_at_call 71; refine CN.out.mono ?_; rintro e w1 ⟨rfl, s1, R1, A1⟩; have K1 := hid A1; have RR1 := hid (R1 _ R0.out); clear A1 R1) | (go_at_call 133; refine (CW.out _ _ K1.out).mono ?_; rintro e w2 ⟨rfl, A2⟩; have K2 := hid A2.swap; clear A2))
       go_ret
       exact ⟨rfl, _, RR1.out, K2.out⟩
 | sta o =>
   cases l with
   | nil =>
     obtain ⟨ao, c, rfl⟩ := h0.form
     have CN := hid (next_nil (R := R) (ao := ao) (c := c) A)
     have HA := hid A
     have R0 := hid h0
     clear A hE h0 hi hl hs ho
     simp only [thV]
     unfold TRPost
     simp only [rd1, putC, ownOf, List.nil_append, List.drop_nil]
     have ta0 : ∀ W : World, (Instr.typeAssert (.iface 140 (.agg #[.pointer (some ⟨P, o, none⟩)])) 20 99 true).run Tryz.prog W = .ok (.tuple #[.pointer none, .bool false]) W := fun W => by kernel_rfl
     have ta1 : ∀ W : World, (Instr.typeAssert (.iface 140 (.agg #[.pointer (some ⟨P, o, none⟩)])) 20 100 true).run Tryz.prog W = .ok (.tuple #[.pointer none, .bool false]) W := fun W => by kernel_rfl
     have ta2 : ∀ W : World, (Instr.typeAssert (.iface 140 (.agg #[.pointer (some ⟨P, o, none⟩)])) 20 102 true).run Tryz.prog W = .ok (.tuple #[.pointer none, .bool false]) W := fun W => by kernel_rfl
     have ta3 : ∀ W : World, (Instr.typeAssert (.iface 140 (.agg #[.pointer (some ⟨P, o, none⟩)])) 20 103 true).run Tryz.prog W = .ok (.tuple #[.pointer none, .bool false]) W := fun W => by kernel_rfl
     go_enter Tryz.func106, Tryz.ntmps106
     go_wp2_with (go_at_call 71; refine CN.out.mono ?_; rintro e w1 ⟨rfl, h1⟩; subst w1)
     go_ret
     first | exact ⟨rfl, _, R0.out, HA.out⟩ | exact ⟨rfl, _, .bool false, R0.out, HA.out⟩
   | cons x r =>
     have hx := hs x (by simp)
     have CN := hid (next_cons A (h0.later (A.into (List.mem_cons_of_mem _ (List.mem_cons_of_mem _ hi)))) (by simp only [List.length_cons] at hl; omega))
     obtain ⟨z, hz⟩ : ∃ z, C[o]? = some z := ⟨_, List.getElem?_eq_getElem ho⟩
     have CW : Hid (∀ s' W, All (blkC R [s'] 124 :: blkC P C 36 :: cs) W → Calls Tryz.prog 133 #[thV P (.sta o), .string ⟨x.toArray⟩] W (RWPost P o C ((stW x).isSome) (.int .i64 (((stW x).getD 0 : Nat) : Int)) (blkC R [s'] 124 :: cs))) := hid (fun s' W hW => rw_sta (hE _ hW.tail.tail) hz hx hW.swap)
     have R0 := hid h0
     clear A hE hi hl hs ho hz h0 hx
     simp only [thV] at CW ⊢
     unfold TRPost
     simp only [rd1, putC, ownOf, List.nil_append, List.drop_succ_cons, List.drop_zero]
     unfold RWPost at CW
     generalize ByteArray.mk x.toArray = X at *
     generalize (stW x).isSome = B at *
     have ta0 : ∀ W : World, (Instr.typeAssert (.iface 140 (.agg #[.pointer (some ⟨P, o, none⟩)])) 20 99 true).run Tryz.prog W = .ok (.tuple #[.pointer none, .bool false]) W := fun W => by kernel_rfl
     have ta1 : ∀ W : World, (Instr.typeAssert (.iface 140 (.agg #[.pointer (some ⟨P, o, none⟩)])) 20 100 true).run Tryz.prog W = .ok (.tuple #[.pointer none, .bool false]) W := fun W => by kernel_rfl
     have ta2 : ∀ W : World, (Instr.typeAssert (.iface 140 (.agg #[.pointer (some ⟨P, o, none⟩)])) 20 102 true).run Tryz.prog W = .ok (.tuple #[.pointer none, .bool false]) W := fun W => by kernel_rfl
     have ta3 : ∀ W : World, (Instr.typeAssert (.iface 140 (.agg #[.pointer (some ⟨P, o, none⟩)])) 20 103 true).run Tryz.prog W = .ok (.tuple #[.pointer none, .bool false]) W := fun W => by kernel_rfl
     cases B
     all_goals
       go_enter Tryz.func106, Tryz.ntmps106
       go_wp2_with (first | (go_at_call 71; refine CN.out.mono ?_; rintro e w1 ⟨rfl, s1, R1, A1⟩; have K1 := hid A1; have RR1 := hid (R1 _ R0.out); clear A1 R1) | (go_at_call 133; refine (CW.out _ _ K1.out).mono ?_; rintro e w2 ⟨rfl, A2⟩; have K2 := hid A2.swap; clear A2))
       go_ret
       exact ⟨rfl, _, RR1.out, K2.out⟩
 | fre o =>
   cases l with
   | nil =>
     obtain ⟨ao, c, rfl⟩ := h0.form
     have CN := hid (next_nil (R := R) (ao := ao) (c := c) A)
     have HA := hid A
     have R0 := hid h0
     clear A hE h0 hi hl hs ho
     simp only [thV]
     unfold TRPost
     simp only [rd1, putC, ownOf, List.nil_append, List.drop_nil]
     have ta0 : ∀ W : World, (Instr.typeAssert (.iface 101 (.pointer (some ⟨P, o, none⟩))) 20 99 true).run Tryz.prog W = .ok (.tuple #[.pointer none, .bool false]) W := fun W => by kernel_rfl
     have ta1 : ∀ W : World, (Instr.typeAssert (.iface 101 (.pointer (some ⟨P, o, none⟩))) 20 100 true).run Tryz.prog W = .ok (.tuple #[.pointer none, .bool false]) W := fun W => by kernel_rfl
     have ta2 : ∀ W : World, (Instr.typeAssert (.iface 101 (.pointer (some ⟨P, o, none⟩))) 20 102 true).run Tryz.prog W = .ok (.tuple #[.pointer none, .bool false]) W := fun W => by kernel_rfl
     have ta3 : ∀ W : World, (Instr.typeAssert (.iface 101 (.pointer (some ⟨P, o, none⟩))) 20 103 true).run Tryz.prog W = .ok (.tuple #[.pointer none, .bool false]) W := fun W => by kernel_rfl
     go_enter Tryz.func106, Tryz.ntmps106
     go_wp2_with (go_at_call 71; refine CN.out.mono ?_; rintro e w1 ⟨rfl, h1⟩; subst w1)
     go_ret
     first | exact ⟨rfl, _, R0.out, HA.out⟩ | exact ⟨rfl, _, .bool false, R0.out, HA.out⟩
   | cons x r =>
     have hx := hs x (by simp)
     have CN := hid (next_cons A (h0.later (A.into (List.mem_cons_of_mem _ (List.mem_cons_of_mem _ hi)))) (by simp only [List.length_cons] at hl; omega))
     obtain ⟨z, hz⟩ : ∃ z, C[o]? = some z := ⟨_, List.getElem?_eq_getElem ho⟩
     have CW : Hid (∀ s' W, All (blkC R [s'] 124 :: blkC P C 36 :: cs) W → Calls Tryz.prog 133 #[thV P (.fre o), .string ⟨x.toArray⟩] W (RWPost P o C ((decide (x = [102, 114, 101, 115, 104]) || decide (x = [111, 108, 100]))) (.bool (decide (x = [102, 114, 101, 115, 104]))) (blkC R [s'] 124 :: cs))) := hid (fun s' W hW => rw_fre (hE _ hW.tail.tail) hz hx hW.swap)
     have R0 := hid h0
     clear A hE hi hl hs ho hz h0 hx
     simp only [thV] at CW ⊢
     unfold TRPost
     simp only [rd1, putC, ownOf, List.nil_append, List.drop_succ_cons, List.drop_zero]
     unfold RWPost at CW
     generalize ByteArray.mk x.toArray = X at *
     generalize (decide (x = [102, 114, 101, 115, 104]) || decide (x = [111, 108, 100])) = B at *
     have ta0 : ∀ W : World, (Instr.typeAssert (.iface 101 (.pointer (some ⟨P, o, none⟩))) 20 99 true).run Tryz.prog W = .ok (.tuple #[.pointer none, .bool false]) W := fun W => by kernel_rfl
     have ta1 : ∀ W : World, (Instr.typeAssert (.iface 101 (.pointer (some ⟨P, o, none⟩))) 20 100 true).run Tryz.prog W = .ok (.tuple #[.pointer none, .bool false]) W := fun W => by kernel_rfl
     have ta2 : ∀ W : World, (Instr.typeAssert (.iface 101 (.pointer (some ⟨P, o, none⟩))) 20 102 true).run Tryz.prog W = .ok (.tuple #[.pointer none, .bool false]) W := fun W => by kernel_rfl
     have ta3 : ∀ W : World, (Instr.typeAssert (.iface 101 (.pointer (some ⟨P, o, none⟩))) 20 103 true).run Tryz.prog W = .ok (.tuple #[.pointer none, .bool false]) W := fun W => by kernel_rfl
     cases B
     all_goals
       go_enter Tryz.func106, Tryz.ntmps106
       go_wp2_with (first | (go_at_call 71; refine CN.out.mono ?_; rintro e w1 ⟨rfl, s1, R1, A1⟩; have K1 := hid A1; have RR1 := hid (R1 _ R0.out); clear A1 R1) | (go_at_call 133; refine (CW.out _ _ K1.out).mono ?_; rintro e w2 ⟨rfl, A2⟩; have K2 := hid A2.swap; clear A2))
       go_ret
       exact ⟨rfl, _, RR1.out, K2.out⟩
 | dat o =>
   cases l with
   | nil =>
     obtain ⟨ao, c, rfl⟩ := h0.form
     have CN := hid (next_nil (R := R) (ao := ao) (c := c) A)
     have HA := hid A
     have R0 := hid h0
     clear A hE h0 hi hl hs ho
     simp only [thV]
     unfold TRPost
     simp only [rd1, putC, ownOf, List.nil_append, List.drop_nil]
     have ta0 : ∀ W : World, (Instr.typeAssert (.iface 141 (.pointer (some ⟨P, o, none⟩))) 20 99 true).run Tryz.prog W = .ok (.tuple #[.pointer none, .bool false]) W := fun W => by kernel_rfl
     have ta1 : ∀ W : World, (Instr.typeAssert (.iface 141 (.pointer (some ⟨P, o, none⟩))) 20 100 true).run Tryz.prog W = .ok (.tuple #[.pointer none, .bool false]) W := fun W => by kernel_rfl
     have ta2 : ∀ W : World, (Instr.typeAssert (.iface 141 (.pointer (some ⟨P, o, none⟩))) 20 102 true).run Tryz.prog W = .ok (.tuple #[.pointer none, .bool false]) W := fun W => by kernel_rfl
     have ta3 : ∀ W : World, (Instr.typeAssert (.iface 141 (.pointer (some ⟨P, o, none⟩))) 20 103 true).run Tryz.prog W = .ok (.tuple #[.pointer none, .bool false]) W := fun W => by kernel_rfl
     go_enter Tryz.func106, Tryz.ntmps106
     go_wp2_with (go_at_call 71; refine CN.out.mono ?_; rintro e w1 ⟨rfl, h1⟩; subst w1)
     go_ret
     first | exact ⟨rfl, _, R0.out, HA.out⟩ | exact ⟨rfl, _, .bool false, R0.out, HA.out⟩
   | cons x r =>
     have hx := hs x (by simp)
     have CN := hid (next_cons A (h0.later (A.into (List.mem_cons_of_mem _ (List.mem_cons_of_mem _ hi)))) (by simp only [List.length_cons] at hl; omega))
     obtain ⟨z, hz⟩ : ∃ z, C[o]? = some z := ⟨_, List.getElem?_eq_getElem ho⟩
     have CW : Hid (∀ s' W, All (blkC R [s'] 124 :: blkC P C 36 :: cs) W → Calls Tryz.prog 133 #[thV P (.dat o), .string ⟨x.toArray⟩] W (fun e w1 => ∃ v, e = .returned (.bool (datR x).isSome) ∧ All (blkC P (C.set o v) 36 :: ownC 5 v (cellsB ((datR x).getD [])) :: blkC R [s'] 124 :: cs) w1)) := hid (fun s' W hW => rw_dat (hE _ hW.tail.tail) hz hx hW.swap)
     have R0 := hid h0
     clear A hE hi hl hs ho hz h0 hx
     simp only [thV] at CW ⊢
     unfold TRPost
     simp only [rd1, putC, ownOf, List.nil_append, List.cons_append, List.drop_succ_cons, List.drop_zero]
     
     generalize ByteArray.mk x.toArray = X at *
     generalize (datR x).isSome = B at *
     have ta0 : ∀ W : World, (Instr.typeAssert (.iface 141 (.pointer (some ⟨P, o, none⟩))) 20 99 true).run Tryz.prog W = .ok (.tuple #[.pointer none, .bool false]) W := fun W => by kernel_rfl
     have ta1 : ∀ W : World, (Instr.typeAssert (.iface 141 (.pointer (some ⟨P, o, none⟩))) 20 100 true).run Tryz.prog W = .ok (.tuple #[.pointer none, .bool false]) W := fun W => by kernel_rfl
     have ta2 : ∀ W : World, (Instr.typeAssert (.iface 141 (.pointer (some ⟨P, o, none⟩))) 20 102 true).run Tryz.prog W = .ok (.tuple #[.pointer none, .bool false]) W := fun W => by kernel_rfl
     have ta3 : ∀ W : World, (Instr.typeAssert (.iface 141 (.pointer (some ⟨P, o, none⟩))) 20 103 true).run Tryz.prog W = .ok (.tuple #[.pointer none, .bool false]) W := fun W => by kernel_rfl
     cases B
     all_goals
       go_enter Tryz.func106, Tryz.ntmps106
       go_wp2_with (first | (go_at_call 71; refine CN.out.mono ?_; rintro e w1 ⟨rfl, s1, R1, A1⟩; have K1 := hid A1; have RR1 := hid (R1 _ R0.out); clear A1 R1) | (go_at_call 133; refine (CW.out _ _ K1.out).mono ?_; rintro e w2 ⟨v2, rfl, A2⟩; have K2 := hid (A2.perm (((List.Perm.swap _ _ _).cons _).trans (List.Perm.swap _ _ _))); clear A2))
       go_ret
       exact ⟨rfl, _, RR1.out, _, K2.out⟩
set_option linter.unusedVariables false
set_option maxRecDepth 1000000
set_option maxHeartbeats 3200000
def rdsL : List Th → Ws → Int × Nat × List Ct
 | [], _ => (0, 0, [])
 | t :: r, l => if (rd1 t l).1 ≠ 0 then ((rd1 t l).1, (rd1 t l).2.1, [(rd1 t l).2.2]) else ((rdsL r (l.drop (rd1 t l).2.1)).1, (rd1 t l).2.1 + (rdsL r (l.drop (rd1 t l).2.1)).2.1, (rd1 t l).2.2 :: (rdsL r (l.drop (rd1 t l).2.1)).2.2)
def putL : List Value → List Th → List Ct → List Value → List Value
 | C, t :: ts, c :: cs, v :: vs => putL (putC C t c v) ts cs vs
 | C, _, _, _ => C
def ownL : List Ct → List Value → List Comp
 | c :: cs, v :: vs => ownOf c v ++ ownL cs vs
 | _, _ => []
theorem putC_len (C : List Value) (t : Th) (x : Ct) (v : Value) : (putC C t x v).length = C.length := by
 unfold putC
 split <;> simp [setOp, setRes]
theorem putL_len (C : List Value) (ts : List Th) (cs : List Ct) (vs : List Value) : (putL C ts cs vs).length = C.length := by
 induction ts generalizing C cs vs with
 | nil => cases cs <;> cases vs <;> rfl
 | cons t r ih =>
   cases cs with
   | nil => cases vs <;> rfl
   | cons c cs =>
     cases vs with
     | nil => rfl
     | cons v vs => rw [putL, ih, putC_len]
theorem rdsL_len {a : List Th} {l : Ws} (h : (rdsL a l).1 = 0) : (rdsL a l).2.2.length = a.length := by
 induction a generalizing l with
 | nil => rfl
 | cons t r ih =>
   rw [rdsL] at h ⊢
   split
   · rename_i h1; rw [if_pos h1] at h; exact absurd h h1
   · rename_i h1; rw [if_neg h1] at h; simp only [List.length_cons]; rw [ih h]
theorem rdsL_le (a : List Th) (l : Ws) : (rdsL a l).2.2.length ≤ a.length := by
 induction a generalizing l with
 | nil => exact Nat.le_refl _
 | cons t r ih =>
   rw [rdsL]
   split
   · simp
   · simp only [List.length_cons]; have := ih (l.drop (rd1 t l).2.1); omega
theorem rdsL_app {a b : List Th} {l : Ws} (h : (rdsL a l).1 = 0) : rdsL (a ++ b) l = ((rdsL b (l.drop (rdsL a l).2.1)).1, (rdsL a l).2.1 + (rdsL b (l.drop (rdsL a l).2.1)).2.1, (rdsL a l).2.2 ++ (rdsL b (l.drop (rdsL a l).2.1)).2.2) := by
 induction a generalizing l with
 | nil => simp [rdsL]
 | cons t r ih =>
   rw [List.cons_append, rdsL, rdsL]
   rw [rdsL] at h
   split
   · rename_i h1; rw [if_pos h1] at h; exact absurd h h1
   · rename_i h1
     rw [if_neg h1] at h
     rw [ih h]
     simp only [List.drop_drop, List.cons_append, Nat.add_assoc]
theorem rdsL_stop {a b : List Th} {l : Ws} (h : (rdsL a l).1 ≠ 0) : rdsL (a ++ b) l = rdsL a l := by
 induction a generalizing l with
 | nil => exact absurd rfl h
 | cons t r ih =>
   rw [List.cons_append, rdsL, rdsL]
   rw [rdsL] at h
   split
   · rfl
   · rename_i h1
     rw [if_neg h1] at h
     rw [ih h]
theorem putL_app {C : List Value} {a b : List Th} {ca cb : List Ct} {va vb : List Value} (h1 : ca.length = a.length) (h2 : va.length = ca.length) : putL C (a ++ b) (ca ++ cb) (va ++ vb) = putL (putL C a ca va) b cb vb := by
 induction a generalizing C ca va with
 | nil =>
   have : ca = [] := List.eq_nil_of_length_eq_zero h1
   subst this
   have : va = [] := List.eq_nil_of_length_eq_zero h2
   subst this
   cases b <;> cases cb <;> cases vb <;> rfl
 | cons t r ih =>
   cases ca with
   | nil => simp at h1
   | cons c cs =>
     cases va with
     | nil => simp at h2
     | cons v vs =>
       simp only [List.cons_append, putL]
       exact ih (by simpa using h1) (by simpa using h2)
theorem putL_more {C : List Value} {a b : List Th} {c : List Ct} {v : List Value} (h : c.length ≤ a.length) : putL C (a ++ b) c v = putL C a c v := by
 induction a generalizing C c v with
 | nil =>
   have : c = [] := List.eq_nil_of_length_eq_zero (by simpa using h)
   subst this
   cases b <;> cases v <;> rfl
 | cons t r ih =>
   cases c with
   | nil => cases v <;> rfl
   | cons x cs =>
     cases v with
     | nil => rfl
     | cons v vs =>
       simp only [List.cons_append, putL]
       exact ih (by simpa using h)
theorem ownL_app {ca cb : List Ct} {va vb : List Value} (h : va.length = ca.length) : ownL (ca ++ cb) (va ++ vb) = ownL ca va ++ ownL cb vb := by
 induction ca generalizing va with
 | nil =>
   have : va = [] := List.eq_nil_of_length_eq_zero h
   subst this
   cases cb <;> cases vb <;> rfl
 | cons c cs ih =>
   cases va with
   | nil => simp at h
   | cons v vs => simp only [List.cons_append, ownL, List.append_assoc]; rw [ih (by simpa using h)]
def TRs (R P : Nat) (w0 : World) (C : List Value) (ts : List Th) (l : Ws) (cs : List Comp) (e : Ending) (w' : World) : Prop :=
 e = .returned (.int .i64 (rdsL ts l).1) ∧ ∃ s' vs, Rt w0 s' (l.drop (rdsL ts l).2.1) ∧ vs.length = (rdsL ts l).2.2.length ∧ All (blkC R [s'] 124 :: blkC P (putL C ts (rdsL ts l).2.2 vs) 36 :: (ownL (rdsL ts l).2.2 vs ++ cs)) w'
theorem TRs.of_one {R P : Nat} {w0 : World} {C : List Value} {t : Th} {l : Ws} {cs : List Comp} {e : Ending} {w' : World} (h : TRPost R P w0 C t l cs e w') : TRs R P w0 C [t] l cs e w' := by
 obtain ⟨he, s', v, hR, hA⟩ := h
 by_cases h0 : (rd1 t l).1 ≠ 0
 · have e1 : rdsL [t] l = ((rd1 t l).1, (rd1 t l).2.1, [(rd1 t l).2.2]) := by rw [rdsL, if_pos h0]
   refine ⟨by rw [e1]; exact he, s', [v], by rw [e1]; exact hR, by rw [e1]; rfl, ?_⟩
   rw [e1]
   simp only [putL, ownL, List.append_nil]
   exact hA
 · have e1 : rdsL [t] l = (0, (rd1 t l).2.1, [(rd1 t l).2.2]) := by rw [rdsL, if_neg h0]; simp [rdsL]
   have h00 : (rd1 t l).1 = 0 := by simpa using h0
   refine ⟨by rw [e1]; rw [h00] at he; exact he, s', [v], by rw [e1]; exact hR, by rw [e1]; rfl, ?_⟩
   rw [e1]
   simp only [putL, ownL, List.append_nil]
   exact hA
theorem thing_flatL {R P : Nat} {t : Th} {s : Value} {l : Ws} {C : List Value} {cs : List Comp} {w w0 : World} (hf : flatT t = true) (hE : ∀ W, All cs W → En W) (h0 : Rt w0 s l) (hi : inC w0 ∈ cs) (hl : l.length * 16 ≤ 140737488355328) (hs : ∀ x ∈ l, x.length ≤ 140737488355328) (ho : offT t < C.length) (A : All (blkC R [s] 124 :: blkC P C 36 :: cs) w) :
   Calls Tryz.prog 106 #[.pointer (some ⟨R, 0, none⟩), thV P t] w (TRs R P w0 C (sub t) l cs) := by
 have e : sub t = [t] := by cases t <;> simp_all [flatT, sub]
 rw [e]
 exact (thing_flat hf hE h0 hi hl hs ho A).mono fun _ _ h => TRs.of_one h
theorem things_gen {R P b : Nat} {ts : List Th} {s : Value} {l : Ws} {C : List Value} {cs : List Comp} {w w0 : World} (hn : ts.length ≤ 100) (h0 : Rt w0 s l) (hb : blkC b (ts.map (thV P)) 20 ∈ cs)
   (HT : ∀ t ∈ ts, ∀ (C' : List Value) (k : Nat) (s' : Value) (ds : List Comp) (W : World), C'.length = C.length → Rt w0 s' (l.drop k) → (∀ V, All ds V → All cs V) → (∀ c ∈ cs, c ∈ ds) → All (blkC R [s'] 124 :: blkC P C' 36 :: ds) W → Calls Tryz.prog 106 #[.pointer (some ⟨R, 0, none⟩), thV P t] W (TRs R P w0 C' (sub t) (l.drop k) ds))
   (A : All (blkC R [s] 124 :: blkC P C 36 :: cs) w) :
   Calls Tryz.prog 73 #[.pointer (some ⟨R, 0, none⟩), .slice (some ⟨b, 0, none⟩) ts.length ts.length] w (TRs R P w0 C (ts.flatMap sub) l cs) := by
 have EL : Hid (∀ j, j < ts.length → ∃ t, ts[j]? = some t ∧ (ts.map (thV P))[j]? = some (thV P t) ∧ t ∈ ts) := hid (fun j hj => ⟨ts[j], List.getElem?_eq_getElem hj, by simp [List.getElem?_eq_getElem hj], List.getElem_mem hj⟩)
 have S0 : Hid (∃ s' vs, Rt w0 s' (l.drop (rdsL ((ts.take 0).flatMap sub) l).2.1) ∧ vs.length = (rdsL ((ts.take 0).flatMap sub) l).2.2.length ∧ All (blkC R [s'] 124 :: blkC P (putL C ((ts.take 0).flatMap sub) (rdsL ((ts.take 0).flatMap sub) l).2.2 vs) 36 :: (ownL (rdsL ((ts.take 0).flatMap sub) l).2.2 vs ++ cs)) w) := hid ⟨s, [], h0, rfl, A⟩
 have E0 : Hid ((rdsL ((ts.take 0).flatMap sub) l).1 = 0) := hid rfl
 have FIN : Hid (ts.take ts.length = ts) := hid (List.take_length ..)
 have HTT := hid HT
 have HBB := hid hb
 unfold TRs
 clear A hb HT h0
 generalize hLV : ts.map (thV P) = LV at *
 clear hLV
 generalize hnn : ts.length = n at *
 clear hnn
 go_enter Tryz.func73, Tryz.ntmps73
 go_wp2
 go_loopw [10] (fun iv wr => ∃ j : Nat, j ≤ n ∧ iv = .int .i64 (j : Int) ∧ Hid ((rdsL ((ts.take j).flatMap sub) l).1 = 0) ∧ Hid (∃ s' vs, Rt w0 s' (l.drop (rdsL ((ts.take j).flatMap sub) l).2.1) ∧ vs.length = (rdsL ((ts.take j).flatMap sub) l).2.2.length ∧ All (blkC R [s'] 124 :: blkC P (putL C ((ts.take j).flatMap sub) (rdsL ((ts.take j).flatMap sub) l).2.2 vs) 36 :: (ownL (rdsL ((ts.take j).flatMap sub) l).2.2 vs ++ cs)) wr)) (fun iv _ => n - (intOf iv).toNat)
 case atStart => exact ⟨0, Nat.zero_le _, rfl, E0, S0⟩
 case round =>
   obtain ⟨j, hj, rfl, hZ, hS⟩ := hrel
   clear S0 E0
   by_cases hlt : j < n
   · have hlt' : (j : Int) < (n : Int) := by omega
     obtain ⟨t, ht, hv, hm⟩ := EL.out j hlt
     obtain ⟨s1, vs1, hR1, hL1, A1⟩ := hS.out
     have hcb : wr.cell? ⟨b, j, none⟩ = some (thV P t) := cell_in A1 (t := 20) (List.mem_cons_of_mem _ (List.mem_cons_of_mem _ (List.mem_append_right _ HBB.out))) hv
     have hdrop : ∀ (xs : List Comp) V, All (xs ++ cs) V → All cs V := fun xs => by
       induction xs with
       | nil => exact fun V h => h
       | cons x r ih => exact fun V h => ih V h.tail
     have CT := hid (HTT.out t hm _ _ s1 _ wr (putL_len _ _ _ _) hR1 (hdrop _) (fun c hc => List.mem_append_right _ hc) A1)
     have ET : ts.take (j + 1) = ts.take j ++ [t] := take_at ht
     have SPL : ts.flatMap sub = (ts.take j).flatMap sub ++ sub t ++ (ts.drop (j + 1)).flatMap sub := by
       have : ts = ts.take j ++ [t] ++ ts.drop (j + 1) := by rw [← ET, List.take_append_drop]
       conv => lhs; rw [this]
       simp
     have EP : (ts.take (j + 1)).flatMap sub = (ts.take j).flatMap sub ++ sub t := by rw [ET]; simp
     have LN := rdsL_len hZ.out
     have RA := rdsL_app (b := sub t) hZ.out
     -- what the step leaves, of the longer list
     have STEP : Hid (∀ e w', TRs R P w0 (putL C ((ts.take j).flatMap sub) (rdsL ((ts.take j).flatMap sub) l).2.2 vs1) (sub t) (l.drop (rdsL ((ts.take j).flatMap sub) l).2.1) (ownL (rdsL ((ts.take j).flatMap sub) l).2.2 vs1 ++ cs) e w' → TRs R P w0 C ((ts.take j).flatMap sub ++ sub t) l cs e w') := hid (fun e w' h => by
       obtain ⟨he, s2, vs2, hR2, hL2, A2⟩ := h
       refine ⟨by rw [RA]; exact he, s2, vs1 ++ vs2, by rw [RA]; simp only [← List.drop_drop]; exact hR2, by rw [RA]; simp [hL1, hL2], ?_⟩
       rw [RA]
       simp only
       rw [putL_app LN hL1, ownL_app hL1]
       refine A2.perm (List.Perm.cons _ (List.Perm.cons _ ?_))
       rw [← List.append_assoc]
       exact List.Perm.append_right cs List.perm_append_comm)
     have CT2 := hid (CT.out.mono STEP.out)
     clear CT STEP A1 hR1 hL1 hS hv hm ht ET LN RA hdrop
     unfold TRs at CT2
     by_cases hx : (rdsL ((ts.take j).flatMap sub ++ sub t) l).1 = 0
     · rw [hx] at CT2
       have NX : Hid ((rdsL ((ts.take (j + 1)).flatMap sub) l).1 = 0) := hid (by rw [EP]; exact hx)
       rw [← EP] at CT2
       clear hx EP SPL hZ
       generalize thV P t = TV at *
       go_wp2_with (go_at_call 106; refine CT2.out.mono ?_; rintro e w2 ⟨rfl, K2⟩; have KK := hid K2; clear K2)
       go_roundw
       case rel => exact ⟨j + 1, by omega, by go_num, NX, KK⟩
       case measure => simp [intOf]; omega
     · have EX : Hid (rdsL (ts.flatMap sub) l = rdsL ((ts.take j).flatMap sub ++ sub t) l) := hid (by rw [SPL]; exact rdsL_stop hx)
       have PX : Hid (∀ c v, c.length ≤ ((ts.take j).flatMap sub ++ sub t).length → putL C (ts.flatMap sub) c v = putL C ((ts.take j).flatMap sub ++ sub t) c v) := hid (fun c v h => by rw [SPL]; exact putL_more h)
       have LX := hid (rdsL_le ((ts.take j).flatMap sub ++ sub t) l)
       have hx' : ((rdsL ((ts.take j).flatMap sub ++ sub t) l).1 == 0) = false := by simpa using hx
       clear hx EP SPL hZ
       generalize thV P t = TV at *
       generalize (ts.take j).flatMap sub ++ sub t = PT at *
       obtain ⟨rr, hrr⟩ : ∃ rr, Hid (rr = rdsL PT l) := ⟨_, hid rfl⟩
       rw [← hrr.out] at CT2 hx' EX LX
       clear hrr
       go_wp2_with (go_at_call 106; refine CT2.out.mono ?_; rintro e w2 ⟨rfl, K2⟩; have KK := hid K2; clear K2)
       go_ret
       refine ⟨by rw [EX.out]; rfl, ?_⟩
       obtain ⟨s2, vs2, hR2, hL2, A2⟩ := KK.out
       refine ⟨s2, vs2, by rw [EX.out]; exact hR2, by rw [EX.out]; exact hL2, ?_⟩
       rw [EX.out, PX.out _ _ LX.out]
       exact A2
   · have hlt' : ¬ (j : Int) < (n : Int) := by omega
     have ej : j = n := by omega
     rw [ej, FIN.out] at hZ hS
     clear ej
     go_wp2
     go_ret
     obtain ⟨s2, vs2, q1, q2, q3⟩ := hS.out
     first | exact ⟨by rw [hZ.out]; rfl, s2, q1, vs2, q2, q3⟩ | exact ⟨by rw [hZ.out]; rfl, s2, vs2, q1, q2, q3⟩
set_option linter.unusedVariables false
set_option maxRecDepth 1000000
set_option maxHeartbeats 3200000
theorem flatMap_flat {l : List Th} (h : ∀ t ∈ l, flatT t = true) : l.flatMap sub = l := by
 induction l with
 | nil => rfl
 | cons t r ih =>
   have e : sub t = [t] := by have := h t (by simp); cases t <;> simp_all [flatT, sub]
   rw [List.flatMap_cons, e, ih (fun x hx => h x (by simp [hx]))]
   rfl
theorem off_look {o : Nat} {C : List Value} (h : offT (.look o) < C.length) : ∀ t ∈ lookL o, offT t < C.length := by
 simp only [offT] at h
 simp [lookL, offT]
 omega
theorem off_sht {o : Nat} {C : List Value} (h : offT (.sht o) < C.length) : ∀ t ∈ shtL o, offT t < C.length := by
 simp only [offT] at h
 simp [shtL, offT]
 omega
theorem TRs.drop {R P : Nat} {w0 : World} {C : List Value} {ts : List Th} {l : Ws} {c : Comp} {cs : List Comp} {e : Ending} {w' : World} (h : TRs R P w0 C ts l (c :: cs) e w') : TRs R P w0 C ts l cs e w' := by
 obtain ⟨he, s', vs, hR, hL, hA⟩ := h
 refine ⟨he, s', vs, hR, hL, ?_⟩
 have := hA.perm ((List.Perm.cons _ (List.Perm.cons _ (List.perm_middle (l₁ := ownL (rdsL ts l).2.2 vs)))).trans (((List.Perm.swap _ _ _).cons _).trans (List.Perm.swap _ _ _)))
 exact this.tail
theorem thing_any {R P : Nat} {t : Th} {s : Value} {l : Ws} {C : List Value} {cs : List Comp} {w w0 : World} (hE : ∀ W, All cs W → En W) (h0 : Rt w0 s l) (hi : inC w0 ∈ cs) (hl : l.length * 16 ≤ 140737488355328) (hs : ∀ x ∈ l, x.length ≤ 140737488355328) (ho : offT t < C.length) (A : All (blkC R [s] 124 :: blkC P C 36 :: cs) w) :
   Calls Tryz.prog 106 #[.pointer (some ⟨R, 0, none⟩), thV P t] w (TRs R P w0 C (sub t) l cs) := by
 cases t with
 | look o =>
   have LK := hid (lookT (P := P) (o := o) A)
   have FLT : (lookL o).flatMap sub = lookL o := flatMap_flat (flat_look o)
   have CT : Hid (∀ b2 W, All (blkC b2 ((lookL o).map (thV P)) 20 :: blkC R [s] 124 :: blkC P C 36 :: cs) W → Calls Tryz.prog 73 #[.pointer (some ⟨R, 0, none⟩), .slice (some ⟨b2, 0, none⟩) (lookL o).length (lookL o).length] W (TRs R P w0 C (lookL o) l cs)) := hid (fun b2 W hW => by
     have hc := things_gen (R := R) (P := P) (b := b2) (ts := lookL o) (s := s) (l := l) (C := C) (cs := blkC b2 ((lookL o).map (thV P)) 20 :: cs) (w0 := w0) (by simp [lookL]) h0 (List.mem_cons_self) (fun t ht C' q s' ds V hC hR hd hm hA => thing_flatL (flat_look o t ht) (fun V hV => hE V (hd V hV).tail) hR (hm _ (List.mem_cons_of_mem _ hi)) (by have := List.length_drop (l := l) (i := q); omega) (fun x hx => hs x (List.mem_of_mem_drop hx)) (by rw [hC]; exact off_look ho t ht) hA) (hW.perm ((List.Perm.swap _ _ _).trans ((List.Perm.swap _ _ _).cons _)))
     rw [FLT] at hc
     exact hc.mono fun e w' h => h.drop)
   rw [show sub (.look o) = lookL o from rfl]
   clear A hE h0 hi hl hs ho FLT
   simp only [thV]
   have ta0 : ∀ W : World, (Instr.typeAssert (.iface 102 (.pointer (some ⟨P, o, none⟩))) 20 99 true).run Tryz.prog W = .ok (.tuple #[.pointer none, .bool false]) W := fun W => by kernel_rfl
   have ta1 : ∀ W : World, (Instr.typeAssert (.iface 102 (.pointer (some ⟨P, o, none⟩))) 20 100 true).run Tryz.prog W = .ok (.tuple #[.pointer none, .bool false]) W := fun W => by kernel_rfl
   have ta2 : ∀ W : World, (Instr.typeAssert (.iface 102 (.pointer (some ⟨P, o, none⟩))) 20 102 true).run Tryz.prog W = .ok (.tuple #[.pointer (some ⟨P, o, none⟩), .bool true]) W := fun W => by kernel_rfl
   go_enter Tryz.func106, Tryz.ntmps106
   go_wp2_with (first | (go_at_call 84; refine LK.out.mono ?_; rintro e w2 ⟨b2, rfl, A2⟩; have K1 := hid A2; clear A2) | (go_at_call 73; refine (CT.out _ _ K1.out).mono ?_; intro e w3 h3; have H3 := hid h3; obtain ⟨i3, hi3⟩ : ∃ i3 : Int, e = .returned (.int .i64 i3) := ⟨_, h3.1⟩; subst hi3; clear h3))
   go_ret
   exact H3.out
 | sht o =>
   have LK := hid (sheetT (P := P) (o := o) A)
   have FLT : (shtL o).flatMap sub = shtL o := flatMap_flat (flat_sht o)
   have CT : Hid (∀ b2 W, All (blkC b2 ((shtL o).map (thV P)) 20 :: blkC R [s] 124 :: blkC P C 36 :: cs) W → Calls Tryz.prog 73 #[.pointer (some ⟨R, 0, none⟩), .slice (some ⟨b2, 0, none⟩) (shtL o).length (shtL o).length] W (TRs R P w0 C (shtL o) l cs)) := hid (fun b2 W hW => by
     have hc := things_gen (R := R) (P := P) (b := b2) (ts := shtL o) (s := s) (l := l) (C := C) (cs := blkC b2 ((shtL o).map (thV P)) 20 :: cs) (w0 := w0) (by simp [shtL]) h0 (List.mem_cons_self) (fun t ht C' q s' ds V hC hR hd hm hA => thing_flatL (flat_sht o t ht) (fun V hV => hE V (hd V hV).tail) hR (hm _ (List.mem_cons_of_mem _ hi)) (by have := List.length_drop (l := l) (i := q); omega) (fun x hx => hs x (List.mem_of_mem_drop hx)) (by rw [hC]; exact off_sht ho t ht) hA) (hW.perm ((List.Perm.swap _ _ _).trans ((List.Perm.swap _ _ _).cons _)))
     rw [FLT] at hc
     exact hc.mono fun e w' h => h.drop)
   rw [show sub (.sht o) = shtL o from rfl]
   clear A hE h0 hi hl hs ho FLT
   simp only [thV]
   have ta0 : ∀ W : World, (Instr.typeAssert (.iface 103 (.pointer (some ⟨P, o, none⟩))) 20 99 true).run Tryz.prog W = .ok (.tuple #[.pointer none, .bool false]) W := fun W => by kernel_rfl
   have ta1 : ∀ W : World, (Instr.typeAssert (.iface 103 (.pointer (some ⟨P, o, none⟩))) 20 100 true).run Tryz.prog W = .ok (.tuple #[.pointer none, .bool false]) W := fun W => by kernel_rfl
   have ta2 : ∀ W : World, (Instr.typeAssert (.iface 103 (.pointer (some ⟨P, o, none⟩))) 20 102 true).run Tryz.prog W = .ok (.tuple #[.pointer none, .bool false]) W := fun W => by kernel_rfl
   have ta3 : ∀ W : World, (Instr.typeAssert (.iface 103 (.pointer (some ⟨P, o, none⟩))) 20 103 true).run Tryz.prog W = .ok (.tuple #[.pointer (some ⟨P, o, none⟩), .bool true]) W := fun W => by kernel_rfl
   go_enter Tryz.func106, Tryz.ntmps106
   go_wp2_with (first | (go_at_call 85; refine LK.out.mono ?_; rintro e w2 ⟨b2, rfl, A2⟩; have K1 := hid A2; clear A2) | (go_at_call 73; refine (CT.out _ _ K1.out).mono ?_; intro e w3 h3; have H3 := hid h3; obtain ⟨i3, hi3⟩ : ∃ i3 : Int, e = .returned (.int .i64 i3) := ⟨_, h3.1⟩; subst hi3; clear h3))
   go_ret
   exact H3.out
 | int o => exact thing_flatL rfl hE h0 hi hl hs ho A
 | cod o => exact thing_flatL rfl hE h0 hi hl hs ho A
 | fre o => exact thing_flatL rfl hE h0 hi hl hs ho A
 | sta o => exact thing_flatL rfl hE h0 hi hl hs ho A
 | dat o => exact thing_flatL rfl hE h0 hi hl hs ho A
 | op o => exact thing_flatL rfl hE h0 hi hl hs ho A
 | res o => exact thing_flatL rfl hE h0 hi hl hs ho A
theorem rthings_any {R P b : Nat} {ts : List Th} {s : Value} {l : Ws} {C : List Value} {cs : List Comp} {w w0 : World} (hn : ts.length ≤ 100) (hE : ∀ W, All cs W → En W) (h0 : Rt w0 s l) (hi : inC w0 ∈ cs) (hl : l.length * 16 ≤ 140737488355328) (hs : ∀ x ∈ l, x.length ≤ 140737488355328) (ho : ∀ t ∈ ts, offT t < C.length) (hb : blkC b (ts.map (thV P)) 20 ∈ cs) (A : All (blkC R [s] 124 :: blkC P C 36 :: cs) w) :
   Calls Tryz.prog 73 #[.pointer (some ⟨R, 0, none⟩), .slice (some ⟨b, 0, none⟩) ts.length ts.length] w (TRs R P w0 C (ts.flatMap sub) l cs) :=
 things_gen hn h0 hb (fun t ht C' q s' ds V hC hR hd hm hA => thing_any (fun V hV => hE V (hd V hV)) hR (hm _ hi) (by have := List.length_drop (l := l) (i := q); omega) (fun x hx => hs x (List.mem_of_mem_drop hx)) (by rw [hC]; exact ho t ht) hA) A
set_option linter.unusedVariables false
set_option maxRecDepth 1000000
set_option maxHeartbeats 6400000
def Ev.zero (k : Int) : Ev := { k := k, fr := false, onm := [], otx := [], pnm := [], ptx := [], ria := none, rik := 0, ric := 0, dia := none, dik := 0, dic := 0, a := 0, nb := 0, nm := 0, wh := 0, cd := 0, on := 0, om := 0, ec := 0, en := 0, pn := 0, pm := 0, rc := 0, rn := 0, sn := 0, sa := 0, ok := 0, pk := 0, l0 := 0, l1 := 0, l2 := 0, l3 := 0, l4 := 0, l5 := 0, l6 := 0, l7 := 0 }
theorem ret_ev {fn : Func} (hf : fn.results = #[.cell 2 36, .tmp 3]) {R : Ending → World → Prop} {a : Act} {w : World} {b : Nat} {EC : List Value} {e : Value} (ht : a.tmps.getD 2 undef = ptr b) (h3 : a.tmps.getD 3 undef = e) (hg : w.heap[b]? = some (.cells EC.toArray 36 (0, 0))) (hs : EC.length = 33) (hd : a.defers = []) (hR : R (.returned (.tuple #[.agg EC.toArray, e])) w) : bodyPost Tryz.prog fn R .ret a w := by
 refine bodyPost_ret (v := .tuple #[.agg EC.toArray, e]) ?_ hd hR
 have hp : a.tmps[2]?.getD undef = ptr b := by rw [← ht]; simp
 have hp3 : a.tmps[3]?.getD undef = e := by rw [← h3]; simp
 simp [results, hf, hp, hp3, asAddr, run_loadVar_row w b 36 36 EC.toArray (0, 0) _ hg Tryz.underlying36 rfl (by rw [List.size_toArray, hs]; kernel_rfl)]
theorem bu0 : Tryz.prog.built 36 [] = some (Ev.zero 0).cells.toArray := by kernel_rfl
theorem bu1 (k : Int) : Tryz.prog.built 36 [(0, .int .i64 k)] = some (Ev.zero k).cells.toArray := by kernel_rfl
theorem All.setRow {g : Nat} {vs vs' : List Value} {t : TypeId} {cs : List Comp} {w : World} (h : All (blkC g vs t :: cs) w) : All (blkC g vs' t :: cs) (w.setRow g vs'.toArray) := by
 have hg : w.heap[g]? = some (.cells vs.toArray t (0, 0)) := h.1.2.1
 refine h.turn ⟨rfl, rfl, rfl, by simp [World.setRow], fun k hk hn => ?_⟩ (blkC_good _ _ _) (setRow_heap w g _ _ t (0, 0) hg) (fun k hk => Or.inl hk) (fun k hk => ?_)
 · exact setRow_other w g k _ (by simpa [blkC] using hn)
 · have : k = g := by simpa [blkC] using hk
   subst this
   simpa [World.setRow] using h.1.2.2 k (by simp [blkC])
def reErr (l : Ws) : Int := match l with
 | [] => 190
 | x :: r => match evW x with
   | none => 190
   | some k => if (rdsL ((kindT k).flatMap sub) r).1 ≠ 0 then (rdsL ((kindT k).flatMap sub) r).1 else if (rdsL ((kindT k).flatMap sub) r).2.1 < r.length then 190 else 0
def REPost (l : Ws) (cs : List Comp) (e : Ending) (w' : World) : Prop :=
 ∃ EC : List Value, e = .returned (.tuple #[.agg EC.toArray, .int .i64 (reErr l)]) ∧ (reErr l ≠ 0 → EC = (Ev.zero 0).cells ∧ All cs w') ∧ (reErr l = 0 → ∃ x r k vs, l = x :: r ∧ evW x = some k ∧ vs.length = (rdsL ((kindT k).flatMap sub) r).2.2.length ∧ EC = putL (Ev.zero k).cells ((kindT k).flatMap sub) (rdsL ((kindT k).flatMap sub) r).2.2 vs ∧ All (ownL (rdsL ((kindT k).flatMap sub) r).2.2 vs ++ cs) w')
theorem readEvent_nil {s : Value} {cs : List Comp} {w w0 : World} (hE : ∀ W, All cs W → En W) (h0 : Rt w0 s []) (A : All cs w) : Calls Tryz.prog 36 #[s] w (REPost [] cs) := by
 obtain ⟨ao, c, rfl⟩ := h0.form
 have A1 := hid (A.addBlk (Ev.zero 0).cells 36)
 have A2 := hid (A1.out.addBlk [.slice ao 0 c] 124)
 have CN := hid (next_nil A2.out)
 have CK : Hid (∀ W, All cs W → Calls Tryz.prog 72 #[.string ⟨#[]⟩] W fun e w' => e = .returned (.tuple #[.int .i64 0, .bool false]) ∧ w' = W) := hid (fun W hW => evOf_any (x := []) (hE W hW).k)
 have B0 := hid bu0
 have EZ : Hid ((Ev.zero 0).cells.length = 33) := hid rfl
 have I36 : Hid ((Tryz.prog.info? 36).map (·.size) = some (Ev.zero 0).cells.toArray.size) := hid (by kernel_rfl)
 have O36 : Hid ((Ev.zero 0).cells.toArray.all (·.oneCell') = true) := hid (by kernel_rfl)
 unfold REPost
 clear h0 A
 go_enter Tryz.func36, Tryz.ntmps36
 go_upto_region 1 with fail
 change Code.wp _ _ _ _ (w.alloc (.cells (Ev.zero 0).cells.toArray 36))
 generalize w.alloc (.cells (Ev.zero 0).cells.toArray 36) = w1 at *
 have K4 : Hid (All (blkC w.heap.size (Ev.zero 0).cells 36 :: cs) ((w1.alloc (.cells #[.slice ao 0 c] 124)).setRow w.heap.size (Ev.zero 0).cells.toArray)) := hid (A2.out.swap.setRow (vs' := (Ev.zero 0).cells)).swap.tail
 have HB := hid (A2.out.blk (g := w.heap.size) (vs := (Ev.zero 0).cells) (t := 36) (by simp))
 have I124 : Hid ((Tryz.prog.info? 124).map (·.size) = some (#[Value.slice ao 0 c] : Array Value).size) := hid (by kernel_rfl)
 go_upto_region 2 with (refine wpList_store_row rfl 124 _ _ rfl w1.heap.size #[.slice ao 0 c] rfl rfl 124 _ (heap_alloc_new w1 _) I124.out rfl rfl ?_; rw [World.setRow_alloc_new])
 generalize w1.alloc (.cells #[.slice ao 0 c] 124) = w2 at *
 go_wp2_with (first | (go_at_call 71; refine CN.out.mono ?_; rintro e w3 ⟨rfl, h3⟩; subst w3) | (go_at_call 72; refine (CK.out _ A2.out.tail.tail).mono ?_; rintro e w4 ⟨rfl, h4⟩; subst w4) | (refine wpList_store_row rfl 36 _ _ rfl w.heap.size (Ev.zero 0).cells.toArray rfl rfl 36 _ HB.out I36.out rfl O36.out ?_))
 exact ret_ev rfl rfl rfl K4.out.1.2.1 rfl rfl ⟨_, rfl, fun _ => ⟨rfl, K4.out.tail⟩, fun h => absurd h (by decide)⟩
set_option linter.unusedVariables false
set_option maxRecDepth 1000000
set_option maxHeartbeats 6400000
theorem off_kind (k : Int) : ∀ t ∈ kindT k, offT t < 33 := by
 unfold kindT
 repeat' split
 all_goals simp [offT]
theorem set_one {C : List Value} {i : Nat} {b : Value} (hC : ∀ u ∈ C, u.oneCell' = true) (hb : b.oneCell' = true) : ∀ u ∈ C.set i b, u.oneCell' = true := fun u hu => by
 rcases List.mem_or_eq_of_mem_set hu with h | h
 · exact hC u h
 · rw [h]; exact hb
theorem own_one {t : TypeId} {v : Value} {l : List Value} {cs : List Comp} {W : World} (h : All (ownC t v l :: cs) W) : v.oneCell' = true := by
 obtain ⟨a, c, e⟩ := owns_form h.1.2.1
 rw [e]; simp [Value.oneCell']
theorem putC_one {C : List Value} {t : Th} {x : Ct} {v : Value} {cs : List Comp} {W : World} (hC : ∀ u ∈ C, u.oneCell' = true) (h : All (ownOf x v ++ cs) W) : ∀ u ∈ putC C t x v, u.oneCell' = true := by
 unfold putC
 split
 · exact set_one hC (by simp [Value.oneCell'])
 · exact set_one hC (by simp [Value.oneCell'])
 · exact set_one hC (by simp [Value.oneCell'])
 · exact set_one hC (by simp [Value.oneCell'])
 · exact set_one hC (own_one h)
 · unfold setOp
   exact set_one (set_one (set_one (set_one (set_one hC (by simp [Value.oneCell'])) (by simp [Value.oneCell'])) (by simp [Value.oneCell'])) (by simp [Value.oneCell'])) (by simp [Value.oneCell'])
 · unfold setRes
   exact set_one (set_one (set_one hC (by simp [Value.oneCell'])) (by simp [Value.oneCell'])) (own_one h)
 · exact hC
theorem dropA : ∀ {xs cs : List Comp} {W : World}, All (xs ++ cs) W → All cs W
 | [], _, _, h => h
 | _ :: _, _, _, h => dropA h.tail
theorem putL_one {ts : List Th} {C : List Value} {q : List Ct} {vs : List Value} {cs : List Comp} {W : World} (hC : ∀ u ∈ C, u.oneCell' = true) (h : All (ownL q vs ++ cs) W) : ∀ u ∈ putL C ts q vs, u.oneCell' = true := by
 induction ts generalizing C q vs with
 | nil => cases q <;> cases vs <;> exact hC
 | cons t r ih =>
   cases q with
   | nil => cases vs <;> exact hC
   | cons c q =>
     cases vs with
     | nil => exact hC
     | cons v vs =>
       rw [putL]
       rw [ownL, List.append_assoc] at h
       exact ih (putC_one hC h) (dropA h)
theorem readEvent_cons {s : Value} {x : List UInt8} {r : Ws} {cs : List Comp} {w w0 : World} (hE : ∀ W, All cs W → En W) (h0 : Rt w0 s (x :: r)) (hi : inC w0 ∈ cs) (hl : (x :: r).length * 16 ≤ 140737488355328) (hs : ∀ y ∈ x :: r, y.length ≤ 140737488355328) (A : All cs w) : Calls Tryz.prog 36 #[s] w (REPost (x :: r) cs) := by
 have hl1 : r.length * 16 ≤ 140737488355328 ∧ r.length < 140737488355327 := by simp only [List.length_cons] at hl; omega
 obtain ⟨ao, c, rfl⟩ := h0.form
 generalize hn1 : (x :: r).length = n1 at *
 clear hn1 hl
 have A1 := hid (A.addBlk (Ev.zero 0).cells 36)
 have A2 := hid (A1.out.addBlk [.slice ao n1 c] 124)
 have CN := hid (next_cons A2.out (h0.later (A2.out.into (List.mem_cons_of_mem _ (List.mem_cons_of_mem _ hi)))) hl1.2)
 have CK : Hid (∀ W, All cs W → Calls Tryz.prog 72 #[.string ⟨x.toArray⟩] W fun e w' => e = .returned (evA x) ∧ w' = W) := hid (fun W hW => evOf_any (hE W hW).k)
 have I36 : Hid ((Tryz.prog.info? 36).map (·.size) = some (Ev.zero 0).cells.toArray.size) := hid (by kernel_rfl)
 have O36 : Hid ((Ev.zero 0).cells.toArray.all (·.oneCell') = true) := hid (by kernel_rfl)
 have I124 : Hid ((Tryz.prog.info? 124).map (·.size) = some (#[.slice ao n1 c] : Array Value).size) := hid (by kernel_rfl)
 have O124 : Hid ((#[.slice ao n1 c] : Array Value).all (·.oneCell') = true) := hid (by simp [Value.oneCell'])
 have R0 := hid h0
 cases hk : evW x with
 | none =>
   have ER : reErr (x :: r) = 190 := by simp [reErr, hk]
   have EA : evA x = .tuple #[.int .i64 0, .bool false] := by unfold evA; rw [hk]; rfl
   rw [EA] at CK
   unfold REPost
   rw [ER]
   clear A hE h0 hi hl1 hs ER EA hk
   generalize ByteArray.mk x.toArray = X at *
   go_enter Tryz.func36, Tryz.ntmps36
   go_upto_region 1 with fail
   change Code.wp _ _ _ _ (w.alloc (.cells (Ev.zero 0).cells.toArray 36))
   generalize w.alloc (.cells (Ev.zero 0).cells.toArray 36) = w1 at *
   go_upto_region 2 with (refine wpList_store_row rfl 124 _ _ rfl w1.heap.size #[.slice ao n1 c] rfl rfl 124 _ (heap_alloc_new w1 _) I124.out rfl O124.out ?_; rw [World.setRow_alloc_new])
   generalize w1.alloc (.cells #[.slice ao n1 c] 124) = w2 at *
   go_wp2_with (first | (go_at_call 71; refine CN.out.mono ?_; rintro e w3 ⟨rfl, s3, R3, A3⟩; have K3 := hid A3; have HB := hid (A3.blk (g := w.heap.size) (vs := (Ev.zero 0).cells) (t := 36) (by simp)); have K4 : Hid (All (blkC w.heap.size (Ev.zero 0).cells 36 :: cs) (w3.setRow w.heap.size (Ev.zero 0).cells.toArray)) := hid (A3.swap.setRow (vs' := (Ev.zero 0).cells)).swap.tail; clear A3) | (go_at_call 72; refine (CK.out _ K3.out.tail.tail).mono ?_; rintro e w4 ⟨rfl, h4⟩; subst w4) | (refine wpList_store_row rfl 36 _ _ rfl w.heap.size (Ev.zero 0).cells.toArray rfl rfl 36 _ HB.out I36.out rfl O36.out ?_))
   exact ret_ev rfl rfl rfl K4.out.1.2.1 rfl rfl ⟨_, rfl, fun _ => ⟨rfl, K4.out.tail⟩, fun h => absurd h (by decide)⟩
 | some k =>
   have EA : evA x = .tuple #[.int .i64 (k : Int), .bool true] := by unfold evA; rw [hk]; rfl
   rw [EA] at CK
   have HLR : Hid (r.length * 16 ≤ 140737488355328 ∧ ∀ y ∈ r, y.length ≤ 140737488355328) := hid ⟨hl1.1, fun y hy => hs y (by simp [hy])⟩
   have CT : Hid (∀ P ds W, All (blkC P (Ev.zero k).cells 36 :: ds) W → Calls Tryz.prog 28 #[.pointer (some ⟨P, 0, none⟩)] W (ThPost P (kindT k) (blkC P (Ev.zero k).cells 36 :: ds))) := hid (fun P ds W hW => things_any hW (cell_in (P := P) (o := 0) hW (t := 36) (List.mem_cons_self) rfl))
   have CR : Hid (∀ (P R b : Nat) (s3 : Value) W, Rt w0 s3 r → All (blkC b ((kindT k).map (thV P)) 20 :: blkC P (Ev.zero k).cells 36 :: blkC R [s3] 124 :: blkC w.heap.size (Ev.zero 0).cells 36 :: cs) W → Calls Tryz.prog 73 #[.pointer (some ⟨R, 0, none⟩), .slice (some ⟨b, 0, none⟩) (kindT k).length (kindT k).length] W (TRs R P w0 (Ev.zero k).cells ((kindT k).flatMap sub) r (blkC w.heap.size (Ev.zero 0).cells 36 :: cs))) := hid (fun P R b s3 W hR hW => (rthings_any (b := b) (kindT_len _) (fun V hV => hE V hV.tail.tail) hR (List.mem_cons_of_mem _ (List.mem_cons_of_mem _ hi)) HLR.out.1 HLR.out.2 (fun t ht => by have := off_kind k t ht; simpa [Ev.len] using this) (List.mem_cons_self) (hW.perm (List.Perm.append_right (blkC w.heap.size (Ev.zero 0).cells 36 :: cs) (List.reverse_perm [blkC b ((kindT k).map (thV P)) 20, blkC P (Ev.zero k).cells 36, blkC R [s3] 124]).symm))).mono fun e w' h => h.drop)
   have B1 := hid (bu1 k)
   have IK : Hid ((Tryz.prog.info? 36).map (·.size) = some (Ev.zero k).cells.toArray.size) := hid (by kernel_rfl)
   have OK36 : Hid ((Ev.zero k).cells.toArray.all (·.oneCell') = true) := hid (by kernel_rfl)
   have ER : Hid (reErr (x :: r) = if (rdsL ((kindT k).flatMap sub) r).1 ≠ 0 then (rdsL ((kindT k).flatMap sub) r).1 else if (rdsL ((kindT k).flatMap sub) r).2.1 < r.length then 190 else 0) := hid (by simp only [reErr, hk])
   have RX : Hid (∀ W s', Rt W (.slice ao n1 c) (x :: r) → (∀ V, Rt V (.slice ao n1 c) (x :: r) → Rt V s' r) → Rt W s' r) := hid (fun W s' h1 h2 => h2 W h1)
   unfold REPost
   clear A hE h0 hi hl1 hs EA
   generalize ByteArray.mk x.toArray = X at *
   go_enter Tryz.func36, Tryz.ntmps36
   go_upto_region 1 with fail
   change Code.wp _ _ _ _ (w.alloc (.cells (Ev.zero 0).cells.toArray 36))
   generalize w.alloc (.cells (Ev.zero 0).cells.toArray 36) = w1 at *
   go_upto_region 2 with (refine wpList_store_row rfl 124 _ _ rfl w1.heap.size #[.slice ao n1 c] rfl rfl 124 _ (heap_alloc_new w1 _) I124.out rfl O124.out ?_; rw [World.setRow_alloc_new])
   generalize w1.alloc (.cells #[.slice ao n1 c] 124) = w2 at *
   go_upto_region 7 with (first | (go_at_call 71; refine CN.out.mono ?_; rintro e w3 ⟨rfl, s3, R3, A3⟩; have K3 := hid A3; have RR3 := hid (R3 _ R0.out); clear A3 R3) | (go_at_call 72; refine (CK.out _ K3.out.tail.tail).mono ?_; rintro e w4 ⟨rfl, h4⟩; subst w4) | (refine wpList_store_row rfl 36 _ _ rfl w3.heap.size (Ev.zero k).cells.toArray rfl rfl 36 _ (heap_alloc_new w3 _) IK.out rfl OK36.out ?_; rw [World.setRow_alloc_new]))
   have K5 := hid (K3.out.addBlk (Ev.zero k).cells 36)
   change Code.wp _ _ _ _ (w3.alloc (.cells (Ev.zero k).cells.toArray 36))
   have CT5 := hid (CT.out _ _ _ K5.out)
   generalize w3.alloc (.cells (Ev.zero k).cells.toArray 36) = w5 at *
   generalize w3.heap.size = PB at *
   generalize w1.heap.size = RB at *
   unfold ThPost at CT5
   have CR5 : Hid (∀ b W, All (blkC b ((kindT k).map (thV PB)) 20 :: blkC PB (Ev.zero k).cells 36 :: blkC RB [s3] 124 :: blkC w.heap.size (Ev.zero 0).cells 36 :: cs) W → Calls Tryz.prog 73 #[.pointer (some ⟨RB, 0, none⟩), .slice (some ⟨b, 0, none⟩) (kindT k).length (kindT k).length] W (fun e w' => ∃ i6 : Int, e = .returned (.int .i64 i6) ∧ i6 = (rdsL ((kindT k).flatMap sub) r).1 ∧ ∃ ao6 n6 c6 vs, n6 = r.length - (rdsL ((kindT k).flatMap sub) r).2.1 ∧ vs.length = (rdsL ((kindT k).flatMap sub) r).2.2.length ∧ All (blkC w.heap.size (Ev.zero 0).cells 36 :: blkC RB [.slice ao6 n6 c6] 124 :: blkC PB (putL (Ev.zero k).cells ((kindT k).flatMap sub) (rdsL ((kindT k).flatMap sub) r).2.2 vs) 36 :: (ownL (rdsL ((kindT k).flatMap sub) r).2.2 vs ++ cs)) w')) := hid (fun b W hW => (CR.out PB RB b s3 W RR3.out hW).mono fun e w' h => by
     obtain ⟨he, s6, vs, hR6, hL6, A6⟩ := h
     obtain ⟨ao6, c6, e6⟩ := hR6.form
     refine ⟨_, he, rfl, ao6, _, c6, vs, List.length_drop, hL6, ?_⟩
     rw [← e6]
     exact A6.perm (List.perm_middle (l₁ := blkC RB [s6] 124 :: blkC PB _ 36 :: ownL (rdsL ((kindT k).flatMap sub) r).2.2 vs)))
   have DRL : Hid (∀ (xs : List Comp) V, All (xs ++ cs) V → All cs V) := hid (fun xs => by
     induction xs with
     | nil => exact fun V h => h
     | cons y ys ih => exact fun V h => ih V h.tail)
   have PLN : Hid (∀ c v, (putL (Ev.zero k).cells ((kindT k).flatMap sub) c v).length = 33) := hid (fun c v => by rw [putL_len]; rfl)
   have SET : Hid (∀ W (ds : List Comp) (EC : List Value), All (blkC w.heap.size (Ev.zero 0).cells 36 :: ds) W → All (blkC w.heap.size EC 36 :: ds) (W.setRow w.heap.size EC.toArray)) := hid (fun W ds EC h => h.setRow (vs' := EC))
   have EVX : Hid (evW x = some k) := hid hk
   clear CT CR CN CK K3 RR3 RX B1 A1 A2 hk K5
   generalize hQ : rdsL ((kindT k).flatMap sub) r = q at *
   generalize (kindT k).map (thV PB) = LV at *
   generalize (kindT k).length = nk at *
   obtain ⟨q1, q2, q3⟩ := q
   simp only at CR5 ER
   have HQ := hid hQ
   clear hQ
   by_cases h1 : q1 = 0
   · by_cases h2 : q2 < r.length
     · have EE : Hid (reErr (x :: r) = 190) := hid (by rw [ER.out, if_neg (by simp [h1]), if_pos h2])
       have H2 := hid h2
       subst h1
       clear h2 ER HQ EVX
       go_upto_region 10 with (first | (go_at_call 28; refine CT5.out.mono ?_; rintro e w6 ⟨b6, rfl, A6⟩; have K6 := hid A6; clear A6) | (go_at_call 73; refine (CR5.out _ _ K6.out).mono ?_; rintro e w7 ⟨i7, rfl, hi7, ao7, n7, c7, vs, hn7, hvs, A7⟩; subst hi7; have K7 := hid A7; have HB := hid (A7.blk (g := w.heap.size) (vs := (Ev.zero 0).cells) (t := 36) (List.mem_cons_self)); have K8 := hid (SET.out _ _ (Ev.zero 0).cells A7); have HN7 := hid hn7; have hc7 := cell_in (P := RB) (o := 0) A7 (t := 124) (List.mem_cons_of_mem _ (List.mem_cons_self)) rfl; clear A7 hn7))
       have n0 : (0 : Int) < (n7 : Int) := by have := HN7.out; have := H2.out; omega
       go_wp2_with (refine wpList_store_row rfl 36 _ _ rfl w.heap.size (Ev.zero 0).cells.toArray rfl rfl 36 _ HB.out I36.out rfl O36.out ?_)
       exact ret_ev rfl rfl rfl K8.out.1.2.1 rfl rfl ⟨(Ev.zero 0).cells, by rw [EE.out]; rfl, fun _ => ⟨rfl, DRL.out _ _ K8.out.tail.tail.tail⟩, fun h => absurd h (by rw [EE.out]; decide)⟩
     · have EE : Hid (reErr (x :: r) = 0) := hid (by rw [ER.out, if_neg (by simp [h1]), if_neg h2])
       have H2 := hid h2
       subst h1
       clear h2 ER
       go_upto_region 10 with (first | (go_at_call 28; refine CT5.out.mono ?_; rintro e w6 ⟨b6, rfl, A6⟩; have K6 := hid A6; clear A6) | (go_at_call 73; refine (CR5.out _ _ K6.out).mono ?_; rintro e w7 ⟨i7, rfl, hi7, ao7, n7, c7, vs, hn7, hvs, A7⟩; subst hi7; have K7 := hid A7; have HB := hid (A7.blk (g := w.heap.size) (vs := (Ev.zero 0).cells) (t := 36) (List.mem_cons_self)); have K8 := hid (SET.out _ _ (Ev.zero 0).cells A7); have HN7 := hid hn7; have hc7 := cell_in (P := RB) (o := 0) A7 (t := 124) (List.mem_cons_of_mem _ (List.mem_cons_self)) rfl; have HVS := hid hvs; have HP7 := hid (A7.blk (g := PB) (t := 36) (List.mem_cons_of_mem _ (List.mem_cons_of_mem _ (List.mem_cons_self)))); have K9 := hid (SET.out _ _ (putL (Ev.zero k).cells ((kindT k).flatMap sub) q3 vs) A7); clear A7 hn7 hvs))
       have n0 : n7 = 0 := by have := HN7.out; have := H2.out; omega
       subst n0
       have LP := hid (PLN.out q3 vs)
       have IP : Hid ((Tryz.prog.info? 36).map (·.size) = some (putL (Ev.zero k).cells ((kindT k).flatMap sub) q3 vs).toArray.size) := hid (by rw [List.size_toArray, LP.out]; kernel_rfl)
       have OP : Hid ((putL (Ev.zero k).cells ((kindT k).flatMap sub) q3 vs).toArray.all (·.oneCell') = true) := hid (all_oneCell_toArray (putL_one (fun u hu => (Array.all_eq_true_iff_forall_mem.1 OK36.out) u (by simpa using hu)) K7.out.tail.tail.tail))
       have ZP : Hid ((Ev.zero 0).cells.toArray.size = (putL (Ev.zero k).cells ((kindT k).flatMap sub) q3 vs).toArray.size) := hid (by rw [List.size_toArray, List.size_toArray, LP.out]; rfl)
       have FINR : Hid (reErr (x :: r) = 0 → ∃ x' r' k' vs', x :: r = x' :: r' ∧ evW x' = some k' ∧ vs'.length = (rdsL ((kindT k').flatMap sub) r').2.2.length ∧ putL (Ev.zero k).cells ((kindT k).flatMap sub) q3 vs = putL (Ev.zero k').cells ((kindT k').flatMap sub) (rdsL ((kindT k').flatMap sub) r').2.2 vs' ∧ All (ownL (rdsL ((kindT k').flatMap sub) r').2.2 vs' ++ cs) (w7.setRow w.heap.size (putL (Ev.zero k).cells ((kindT k).flatMap sub) q3 vs).toArray)) := hid (fun _ => ⟨x, r, k, vs, rfl, EVX.out, by rw [HQ.out]; exact HVS.out, by rw [HQ.out], by rw [HQ.out]; exact K9.out.tail.tail.tail⟩)
       generalize putL (Ev.zero k).cells ((kindT k).flatMap sub) q3 vs = PC at *
       clear HQ EVX HVS
       go_wp2_with (first | (refine wpList_load_row rfl 36 _ rfl PB rfl 36 PC.toArray (0, 0) _ HP7.out Tryz.underlying36 rfl IP.out ?_) | (refine wpList_store_row rfl 36 _ _ rfl w.heap.size PC.toArray rfl rfl 36 _ HB.out IP.out ZP.out OP.out ?_))
       exact ret_ev rfl rfl rfl K9.out.1.2.1 LP.out rfl ⟨PC, by rw [EE.out]; rfl, fun h => absurd EE.out h, FINR.out⟩
   · have EE : Hid (reErr (x :: r) = q1) := hid (by rw [ER.out, if_pos h1])
     have h1' : (q1 == 0) = false := by simpa using h1
     have H1 := hid h1
     clear h1 ER HQ EVX
     go_wp2_with (first | (go_at_call 28; refine CT5.out.mono ?_; rintro e w6 ⟨b6, rfl, A6⟩; have K6 := hid A6; clear A6) | (go_at_call 73; refine (CR5.out _ _ K6.out).mono ?_; rintro e w7 ⟨i7, rfl, hi7, ao7, n7, c7, vs, hn7, hvs, A7⟩; subst hi7; have K7 := hid A7; have HB := hid (A7.blk (g := w.heap.size) (vs := (Ev.zero 0).cells) (t := 36) (List.mem_cons_self)); have K8 := hid (SET.out _ _ (Ev.zero 0).cells A7); clear A7 hn7 hvs) | (refine wpList_store_row rfl 36 _ _ rfl w.heap.size (Ev.zero 0).cells.toArray rfl rfl 36 _ HB.out I36.out rfl O36.out ?_))
     exact ret_ev rfl rfl rfl K8.out.1.2.1 rfl rfl ⟨(Ev.zero 0).cells, by rw [EE.out]; rfl, fun _ => ⟨rfl, DRL.out _ _ K8.out.tail.tail.tail⟩, fun h => absurd h (by rw [EE.out]; exact H1.out)⟩
theorem readEvent_any {s : Value} {l : Ws} {cs : List Comp} {w w0 : World} (hE : ∀ W, All cs W → En W) (h0 : Rt w0 s l) (hi : inC w0 ∈ cs) (hl : l.length * 16 ≤ 140737488355328) (hs : ∀ y ∈ l, y.length ≤ 140737488355328) (A : All cs w) : Calls Tryz.prog 36 #[s] w (REPost l cs) := by
 cases l with
 | nil => exact readEvent_nil hE h0 A
 | cons x r => exact readEvent_cons hE h0 hi hl hs A
set_option linter.unusedVariables false
set_option maxRecDepth 1000000
set_option maxHeartbeats 6400000
theorem All.merge {xs cs : List Comp} {w1 w2 : World} (h : All (xs ++ [inC w1]) w2) (hc : All cs w1) : All (xs ++ cs) w2 := by
 have hb : Below w1.heap.size w1 w2 := h.into (by simp)
 induction xs with
 | nil => exact hc.later hb
 | cons x r ih =>
   obtain ⟨h1, h2, h3⟩ := h
   refine ⟨h1, fun d hd => ?_, ih h3⟩
   rcases List.mem_append.1 hd with hd | hd
   · exact h2 d (by simp [hd])
   · intro k hk hk2
     exact h2 (inC w1) (by simp) k hk (List.mem_range.2 ((hc.mem hd).2.2 k hk2))
def rlErr (l : List UInt8) : Int := if (splitW l).err ≠ 0 then ((splitW l).err : Int) else reErr (splitW l).ws
def RLPost (l : List UInt8) (cs : List Comp) (e : Ending) (w' : World) : Prop :=
 ∃ EC : List Value, e = .returned (.tuple #[.agg EC.toArray, .int .i64 (rlErr l)]) ∧ (rlErr l ≠ 0 → EC = (Ev.zero 0).cells ∧ All cs w') ∧ (rlErr l = 0 → ∃ x r k vs, (splitW l).ws = x :: r ∧ evW x = some k ∧ vs.length = (rdsL ((kindT k).flatMap sub) r).2.2.length ∧ EC = putL (Ev.zero k).cells ((kindT k).flatMap sub) (rdsL ((kindT k).flatMap sub) r).2.2 vs ∧ All (ownL (rdsL ((kindT k).flatMap sub) r).2.2 vs ++ cs) w')
theorem ReadLine_any {l : List UInt8} {cs : List Comp} {w : World} (hE : ∀ W, All cs W → En W) (hl : l.length ≤ 140737488355328) (hw : (splitW l).ws.length * 16 ≤ 140737488355328 ∧ ∀ y ∈ (splitW l).ws, y.length ≤ 140737488355328) (A : All cs w) : Calls Tryz.prog 14 #[.string ⟨l.toArray⟩] w (RLPost l cs) := by
 have A1 := hid (A.addBlk (Ev.zero 0).cells 36)
 have CS := hid (Split_any A1.out hl)
 have I36 : Hid ((Tryz.prog.info? 36).map (·.size) = some (Ev.zero 0).cells.toArray.size) := hid (by kernel_rfl)
 have O36 : Hid ((Ev.zero 0).cells.toArray.all (·.oneCell') = true) := hid (by kernel_rfl)
 have SET : Hid (∀ W (ds : List Comp) (EC : List Value), All (blkC w.heap.size (Ev.zero 0).cells 36 :: ds) W → All (blkC w.heap.size EC 36 :: ds) (W.setRow w.heap.size EC.toArray)) := hid (fun W ds EC h => h.setRow (vs' := EC))
 unfold SplitPost at CS
 by_cases he : (splitW l).err ≠ 0
 · have ER : Hid (rlErr l = ((splitW l).err : Int)) := hid (by unfold rlErr; rw [if_pos he])
   have hx : (((splitW l).err : Int) == 0) = false := by simp; omega
   have HX : Hid (((splitW l).err : Int) ≠ 0) := hid (by omega)
   clear A hE hl hw he
   unfold RLPost
   generalize ((splitW l).err : Int) = X at *
   generalize ((splitW l).at : Int) = Y at *
   generalize ByteArray.mk l.toArray = L at *
   go_enter Tryz.func14, Tryz.ntmps14
   go_upto_region 1 with fail
   change Code.wp _ _ _ _ (w.alloc (.cells (Ev.zero 0).cells.toArray 36))
   generalize w.alloc (.cells (Ev.zero 0).cells.toArray 36) = w1 at *
   go_wp2_with (first | (go_at_call 35; refine CS.out.mono ?_; rintro e w2 ⟨v2, rfl, A2⟩; have HB := hid (A2.tail.blk (g := w.heap.size) (vs := (Ev.zero 0).cells) (t := 36) (List.mem_cons_self)); have K8 := hid (SET.out _ _ (Ev.zero 0).cells A2.tail); have K9 := hid (SET.out _ _ (Ev.zero 0).cells A2.swap); clear A2) | (refine wpList_store_row rfl 36 _ _ rfl w.heap.size (Ev.zero 0).cells.toArray rfl rfl 36 _ HB.out I36.out rfl O36.out ?_))
   exact ret_ev rfl rfl rfl K8.out.1.2.1 rfl rfl ⟨(Ev.zero 0).cells, by rw [ER.out]; rfl, fun _ => ⟨rfl, K8.out.tail⟩, fun h => absurd h (by rw [ER.out]; exact HX.out)⟩
 · have he0 : (splitW l).err = 0 := by simpa using he
   have ER : Hid (rlErr l = reErr (splitW l).ws) := hid (by unfold rlErr; rw [if_neg (by simp [he0])])
   rw [he0] at CS
   have CE : Hid (∀ v W, All (ownC 9 v (txW (splitW l).ws) :: blkC w.heap.size (Ev.zero 0).cells 36 :: cs) W → Calls Tryz.prog 36 #[v] W (fun e w' => ∃ EC : List Value, e = .returned (.tuple #[.agg EC.toArray, .int .i64 (reErr (splitW l).ws)]) ∧ EC.length = 33 ∧ EC.toArray.all (·.oneCell') = true ∧ ∃ os : List Comp, All (blkC w.heap.size (Ev.zero 0).cells 36 :: (os ++ cs)) w' ∧ (reErr (splitW l).ws ≠ 0 → EC = (Ev.zero 0).cells ∧ os = []) ∧ (reErr (splitW l).ws = 0 → ∃ x r k vs, (splitW l).ws = x :: r ∧ evW x = some k ∧ vs.length = (rdsL ((kindT k).flatMap sub) r).2.2.length ∧ EC = putL (Ev.zero k).cells ((kindT k).flatMap sub) (rdsL ((kindT k).flatMap sub) r).2.2 vs ∧ os = ownL (rdsL ((kindT k).flatMap sub) r).2.2 vs))) := hid (fun v W hW => by
     refine (readEvent_any (cs := [inC W]) (w0 := W) (fun V hV => hE V (hW.tail.tail.later (hV.into (List.mem_cons_self)))) (rt_own hW) (List.mem_cons_self) hw.1 hw.2 (All.came W)).mono ?_
     rintro e w' ⟨EC, he', hbad, hok⟩
     by_cases hz : reErr (splitW l).ws = 0
     · obtain ⟨x, r, k, vs, e1, e2, e3, e4, hA⟩ := hok hz
       have hM := All.merge hA hW.tail
       refine ⟨EC, he', by rw [e4, putL_len]; rfl, ?_, _, hM.perm List.perm_middle, fun h => absurd hz h, fun _ => ⟨x, r, k, vs, e1, e2, e3, e4, rfl⟩⟩
       rw [e4]
       exact all_oneCell_toArray (putL_one (fun u hu => (Array.all_eq_true_iff_forall_mem.1 (show (Ev.zero k).cells.toArray.all (·.oneCell') = true by kernel_rfl)) u (by simpa using hu)) hA)
     · obtain ⟨e1, hA⟩ := hbad hz
       refine ⟨EC, he', by rw [e1]; rfl, by rw [e1]; exact O36.out, [], All.merge (xs := []) hA hW.tail, fun _ => ⟨e1, rfl⟩, fun h => absurd h hz⟩)
   clear A hE hl hw he he0
   unfold RLPost
   rw [ER.out]
   generalize (splitW l).ws = WS at *
   generalize hRE : reErr WS = RE at *
   clear hRE ER
   generalize ((splitW l).at : Int) = Y at *
   generalize ByteArray.mk l.toArray = L at *
   go_enter Tryz.func14, Tryz.ntmps14
   go_upto_region 1 with fail
   change Code.wp _ _ _ _ (w.alloc (.cells (Ev.zero 0).cells.toArray 36))
   generalize w.alloc (.cells (Ev.zero 0).cells.toArray 36) = w1 at *
   go_wp2_with (first | (go_at_call 35; refine CS.out.mono ?_; rintro e w2 ⟨v2, rfl, A2⟩; have K2 := hid A2; clear A2) | (go_at_call 36; refine (CE.out _ _ K2.out).mono ?_; rintro e w3 ⟨EC, rfl, hlen, hone, os, A3, hb3, hg3⟩; have HB := hid (A3.blk (g := w.heap.size) (vs := (Ev.zero 0).cells) (t := 36) (List.mem_cons_self)); have K8 := hid (SET.out _ _ EC A3); have HL := hid hlen; have HO := hid hone; have HBAD := hid hb3; have HGOOD := hid hg3; have IE : Hid ((Tryz.prog.info? 36).map (·.size) = some EC.toArray.size) := hid (by rw [List.size_toArray, hlen]; kernel_rfl); have ZE : Hid ((Ev.zero 0).cells.toArray.size = EC.toArray.size) := hid (by rw [List.size_toArray, List.size_toArray, hlen]; rfl); clear A3 hlen hone hb3 hg3) | (refine wpList_store_row rfl 36 _ _ rfl w.heap.size EC.toArray rfl rfl 36 _ HB.out IE.out ZE.out HO.out ?_))
   refine ret_ev rfl rfl rfl K8.out.1.2.1 HL.out rfl ⟨EC, rfl, fun h => ?_, fun h => ?_⟩
   · obtain ⟨e1, e2⟩ := HBAD.out h
     have := K8.out.tail
     rw [e2] at this
     exact ⟨e1, this⟩
   · obtain ⟨x, r, k, vs, e1, e2, e3, e4, e5⟩ := HGOOD.out h
     have := K8.out.tail
     rw [e5] at this
     exact ⟨x, r, k, vs, e1, e2, e3, e4, this⟩
set_option linter.unusedVariables false
set_option maxRecDepth 100000
theorem opA_w64 {k n m : Int} {nm tx x : List UInt8} (hx : x ∈ opA k nm tx n m) : x.length ≤ 64 := by
 unfold opA at hx
 split at hx
 · simp at hx
 · rename_i h
   obtain ⟨hk1, hk8, hn0, hn1, hm0, hm1, l1, l2, _⟩ := chkO_zero (Classical.byContradiction h)
   unfold opW at hx
   rcases List.mem_cons.1 hx with rfl | hx
   · have := nmN_len k.toNat
     omega
   · obtain ⟨c, _, rfl⟩ := List.mem_map.1 hx
     have d1 := digits_short (v := n.toNat) (by omega)
     have d2 := digits_short (v := m.toNat) (by omega)
     unfold fieldW
     split
     · omega
     · split
       · omega
       · split <;> omega
theorem resA_len (c n : Int) (l : Ws) : (resA c n l).length ≤ 11 := by
 unfold resA
 split
 · simp
 · rename_i h
   obtain ⟨_, _, _, _, _, h8, _⟩ := chk_zero (Classical.byContradiction h)
   unfold resW
   split
   · simp only [List.length_cons]
     omega
   · simp
theorem cd_len (k : Nat) : (cdN.getD k []).length ≤ 10 := by
 by_cases h : k < 5
 · have key : ∀ a : Fin 5, (cdN.getD a.val []).length ≤ 10 := by decide
   exact key ⟨k, h⟩
 · rw [List.getD, List.getElem?_eq_none (by simp [cdN]; omega)]
   simp
theorem resA_w64 {c n : Int} {l : Ws} {x : List UInt8} (hx : x ∈ resA c n l) : x.length ≤ 64 := by
 unfold resA at hx
 split at hx
 · simp at hx
 · rename_i h
   obtain ⟨_, _, _, h0, h1, h8, h64⟩ := chk_zero (Classical.byContradiction h)
   unfold resW at hx
   rcases List.mem_cons.1 hx with rfl | hx
   · have := cd_len c.toNat
     omega
   · split at hx
     · rcases List.mem_cons.1 hx with rfl | hx
       · have := digits_short (v := n.toNat) (by omega)
         omega
       · rcases List.mem_cons.1 hx with rfl | hx
         · have := digits_short (v := l.length) (by omega)
           omega
         · exact h64 x hx
     · simp at hx
theorem chkO_nn {k : Int} {nm tx : List UInt8} {n m : Int} (h : chkO k nm tx n m = 0) : 1 ≤ k ∧ k ≤ 8 ∧ 0 ≤ n ∧ n ≤ 1099511627776 ∧ 0 ≤ m ∧ m ≤ 1099511627776 ∧ nm.length ≤ 64 ∧ tx.length ≤ 64 := by
 obtain ⟨a, b, c, d, e, f, g, i, _⟩ := chkO_zero h
 exact ⟨a, b, c, d, e, f, g, i⟩
theorem hxD_nat {n : Nat} (h : n < 16) : hexN (hxD.getD n 0).toNat = some n := by
 have hh : ∀ a : Fin 16, hexN (hxD.getD a.val 0).toNat = some a.val := by decide
 exact hh ⟨n, h⟩
theorem hxD_of {b : UInt8} {d : Nat} (h : hexN b.toNat = some d) : hxD.getD d 0 = b := by
 have hd := hexN_lt h
 have hh : ∀ a : Fin 16, hxD.getD a.val 0 = hexD a.val := by decide
 rw [hh ⟨d, hd⟩]
 exact hexD_hexN h
theorem hexW_cons (b : UInt8) (r : List UInt8) : hexW (b :: r) = hxD.getD (b.toNat / 16) 0 :: hxD.getD (b.toNat % 16) 0 :: hexW r := by simp [hexW, hexB]
theorem hexR_hexW : ∀ d : List UInt8, hexR (hexW d) = some d
 | [] => rfl
 | b :: r => by
   have hb := b.toNat_lt
   rw [hexW_cons, hexR, hxD_nat (by omega), hxD_nat (by omega)]
   simp only [hexR_hexW r, Option.map_some]
   rw [show 16 * (b.toNat / 16) + b.toNat % 16 = b.toNat by omega]
   simp
theorem hexW_hexR : ∀ {l d : List UInt8}, hexR l = some d → hexW d = l
 | [], d, h => by simp only [hexR, Option.some.injEq] at h; subst h; rfl
 | [_], d, h => by simp [hexR] at h
 | a :: b :: r, d, h => by
   rw [hexR] at h
   cases ha : hexN a.toNat with
   | none => rw [ha] at h; simp at h
   | some x =>
     cases hb : hexN b.toNat with
     | none => rw [ha, hb] at h; simp at h
     | some y =>
       rw [ha, hb] at h
       simp only [Option.map_eq_some_iff] at h
       obtain ⟨d', h1, rfl⟩ := h
       have hx := hexN_lt ha
       have hy := hexN_lt hb
       rw [hexW_cons, hexW_hexR h1]
       have e : (UInt8.ofNat (16 * x + y)).toNat = 16 * x + y := n_of _ (by omega)
       rw [e, show (16 * x + y) / 16 = x by omega, show (16 * x + y) % 16 = y by omega, hxD_of ha, hxD_of hb]
theorem datR_hexW {d : List UInt8} (h : d.length ≤ 2304) : datR (hexW d) = some d := by
 unfold datR
 rw [if_neg (by rw [hexW_len]; omega), hexR_hexW]
theorem datR_ok {l d : List UInt8} (h : datR l = some d) : hexW d = l ∧ d.length ≤ 2304 := by
 unfold datR at h
 split at h
 · simp at h
 · have e := hexW_hexR h
   refine ⟨e, ?_⟩
   have := hexW_len d
   rw [e] at this
   omega
theorem itoa_back {v : Int} (h0 : 0 ≤ v) (h1 : v ≤ 9223372036854775807) : numW (Lib.itoa v) = some v.toNat := by
 obtain ⟨n, rfl⟩ := Int.eq_ofNat_of_zero_le h0
 rw [itoa_nat, Int.toNat_natCast]
 exact numW_digits (by omega)
theorem st_back {k : Int} (h1 : 1 ≤ k) (h3 : k ≤ 3) : stW (stN.getD k.toNat []) = some k.toNat := by
 obtain rfl | rfl | rfl : k = 1 ∨ k = 2 ∨ k = 3 := by omega
 all_goals rfl
theorem st_ok {x : List UInt8} {k : Nat} (h : stW x = some k) : 1 ≤ k ∧ k ≤ 3 ∧ stN.getD k [] = x := by
 obtain ⟨h1, h2, h3⟩ := findW_some h
 refine ⟨h1, by simp [stN] at h2; omega, ?_⟩
 obtain rfl | rfl | rfl : k = 1 ∨ k = 2 ∨ k = 3 := by simp [stN] at h2; omega
 all_goals exact h3
theorem ev_back {k : Int} (h1 : 1 ≤ k) (h3 : k ≤ 11) : evW (kdN.getD k.toNat []) = some k.toNat := by
 obtain rfl | rfl | rfl | rfl | rfl | rfl | rfl | rfl | rfl | rfl | rfl : k = 1 ∨ k = 2 ∨ k = 3 ∨ k = 4 ∨ k = 5 ∨ k = 6 ∨ k = 7 ∨ k = 8 ∨ k = 9 ∨ k = 10 ∨ k = 11 := by omega
 all_goals rfl
theorem ev_ok {x : List UInt8} {k : Nat} (h : evW x = some k) : 1 ≤ k ∧ k ≤ 11 ∧ kdN.getD k [] = x := by
 obtain ⟨h1, h2, h3⟩ := findW_some h
 have h4 : k < 12 := by simp [kdN] at h2; omega
 refine ⟨h1, by omega, ?_⟩
 obtain rfl | rfl | rfl | rfl | rfl | rfl | rfl | rfl | rfl | rfl | rfl : k = 1 ∨ k = 2 ∨ k = 3 ∨ k = 4 ∨ k = 5 ∨ k = 6 ∨ k = 7 ∨ k = 8 ∨ k = 9 ∨ k = 10 ∨ k = 11 := by omega
 all_goals exact h3
def ct1 (C : List Value) (items : Ws) (data : List UInt8) : Th → Ct
 | .int o => .int (valI C o)
 | .cod o => .int (valI C o)
 | .sta o => .int (valI C o)
 | .fre o => .bool (boolV C o)
 | .dat _ => .dat data
 | .op o => .op ⟨valI C o, strV C (o + 1), strV C (o + 2), (valI C (o + 3)).toNat, (valI C (o + 4)).toNat⟩
 | .res o => .res (valI C o) (valI C (o + 1)) items
 | _ => .none
def Fit (C : List Value) (items : Ws) (data : List UInt8) : Th → Prop
 | .int o => 0 ≤ valI C o ∧ valI C o ≤ 9223372036854775807
 | .cod o => 0 ≤ valI C o ∧ valI C o ≤ 9223372036854775807
 | .sta o => 1 ≤ valI C o ∧ valI C o ≤ 3
 | .fre _ => True
 | .dat _ => data.length ≤ 2304
 | .op o => er1 C items (.op o) = 0
 | .res o => er1 C items (.res o) = 0
 | _ => False
theorem rd1_back {C : List Value} {items : Ws} {data : List UInt8} {t : Th} {b : Ws} (h : Fit C items data t) : rd1 t (wd1 C items data t ++ b) = (0, (wd1 C items data t).length, ct1 C items data t) := by
 cases t with
 | int o =>
   obtain ⟨h0, h1⟩ := h
   simp only [wd1, List.cons_append, List.nil_append, rd1, itoa_back h0 h1, ct1]
   simp
   omega
 | cod o =>
   obtain ⟨h0, h1⟩ := h
   simp only [wd1, List.cons_append, List.nil_append, rd1, itoa_back h0 h1, ct1]
   simp
   omega
 | sta o =>
   obtain ⟨h0, h1⟩ := h
   simp only [wd1, List.cons_append, List.nil_append, rd1, st_back h0 h1, ct1]
   simp
   omega
 | fre o =>
   simp only [wd1, List.cons_append, List.nil_append, rd1, ct1]
   cases boolV C o <;> rfl
 | dat o =>
   simp only [wd1, List.cons_append, List.nil_append, rd1, datR_hexW h, ct1]
   simp
 | op o =>
   have h' : chkO (valI C o) (strV C (o + 1)) (strV C (o + 2)) (valI C (o + 3)) (valI C (o + 4)) = 0 := h
   simp only [wd1, rd1, readO_back h', ct1]
 | res o =>
   have h' : chkW (valI C o) (valI C (o + 1)) items = 0 := h
   simp only [wd1, rd1, readR_back h', ct1]
 | look o => exact absurd h (by simp [Fit])
 | sht o => exact absurd h (by simp [Fit])
theorem rdsL_back {C : List Value} {items : Ws} {data : List UInt8} : ∀ {ts : List Th} {b : Ws}, (∀ t ∈ ts, Fit C items data t) → rdsL ts (ts.flatMap (wd1 C items data) ++ b) = (0, (ts.flatMap (wd1 C items data)).length, ts.map (ct1 C items data))
 | [], b, h => rfl
 | t :: r, b, h => by
   have e : (t :: r).flatMap (wd1 C items data) ++ b = wd1 C items data t ++ (r.flatMap (wd1 C items data) ++ b) := by simp
   have ih := rdsL_back (b := b) (fun x hx => h x (List.mem_cons_of_mem _ hx))
   rw [e, rdsL, rd1_back (h t (List.mem_cons_self))]
   simp only [ne_eq, not_true_eq_false, if_false, List.drop_left, ih]
   simp
def bd1 : Th → Nat
 | .dat _ => 4700
 | .op _ => 1100
 | .res _ => 2900
 | _ => 100
theorem escW_le : ∀ x : List UInt8, (escW x).length ≤ 4 * x.length
 | [] => by simp [escW]
 | b :: r => by
   have := escW_le r
   have e : escW (b :: r) = escB b ++ escW r := by simp [escW]
   have hb : (escB b).length ≤ 4 := by
     unfold escB
     repeat' split
     all_goals simp
   rw [e, List.length_append, List.length_cons]
   omega
theorem wrtW_le (x : List UInt8) : (wrtW x).length ≤ 4 * x.length + 2 := by
 unfold wrtW
 split
 · omega
 · have := escW_le x
   simp only [List.length_cons, List.length_append, List.length_nil]
   omega
theorem wrtW_hex (d : List UInt8) : (wrtW (hexW d)).length ≤ 2 * d.length + 2 := by
 unfold wrtW
 split
 · rw [hexW_len]; omega
 · rename_i h
   cases d with
   | nil => simp [hexW, escW]
   | cons b r =>
     exfalso
     apply h
     refine decide_eq_true ⟨by rw [hexW_cons]; simp, ?_⟩
     have key : ∀ a : Fin 16, bareN (hxD.getD a.val 0).toNat = true := by decide
     intro x hx
     unfold hexW at hx
     obtain ⟨c, _, hc⟩ := List.mem_flatMap.1 hx
     have hc' := c.toNat_lt
     simp only [hexB, List.mem_cons, List.not_mem_nil, or_false] at hc
     rcases hc with rfl | rfl
     · exact key ⟨c.toNat / 16, by omega⟩
     · exact key ⟨c.toNat % 16, by omega⟩
def szW (ws : Ws) : Nat := (ws.map fun x => (wrtW x).length + 1).sum
theorem szW_app (a b : Ws) : szW (a ++ b) = szW a + szW b := by simp [szW]
theorem szW_le {ws : Ws} {n : Nat} (h : ∀ x ∈ ws, x.length ≤ n) : szW ws ≤ ws.length * (4 * n + 3) := by
 induction ws with
 | nil => simp [szW]
 | cons x r ih =>
   have h1 := ih (fun y hy => h y (List.mem_cons_of_mem _ hy))
   have h2 := wrtW_le x
   have h3 := h x (List.mem_cons_self)
   simp only [szW, List.map_cons, List.sum_cons, List.length_cons] at h1 ⊢
   rw [Nat.add_mul]
   omega
theorem joinW_le : ∀ ws : Ws, (joinW ws).length ≤ szW ws
 | [] => by simp [joinW, szW]
 | x :: r => by
   have e : (tailW r).length = szW r := by
     unfold tailW szW
     rw [List.length_flatMap]
     simp
   simp only [joinW, List.length_append, e, szW, List.map_cons, List.sum_cons]
   omega
theorem itoa_len {v : Int} (h0 : 0 ≤ v) (h1 : v ≤ 9223372036854775807) : (Lib.itoa v).length ≤ 19 := by
 obtain ⟨n, rfl⟩ := Int.eq_ofNat_of_zero_le h0
 rw [itoa_nat]
 exact digits_short (by omega)
theorem sz1 {C : List Value} {items : Ws} {data : List UInt8} {t : Th} (h : Fit C items data t) : szW (wd1 C items data t) ≤ bd1 t := by
 cases t with
 | int o =>
   have := wrtW_le (Lib.itoa (valI C o))
   have := itoa_len h.1 h.2
   simp only [wd1, szW, bd1, List.map_cons, List.map_nil, List.sum_cons, List.sum_nil]
   omega
 | cod o =>
   have := wrtW_le (Lib.itoa (valI C o))
   have := itoa_len h.1 h.2
   simp only [wd1, szW, bd1, List.map_cons, List.map_nil, List.sum_cons, List.sum_nil]
   omega
 | sta o =>
   have hk : ∀ k : Int, 1 ≤ k → k ≤ 3 → (stN.getD k.toNat []).length ≤ 10 := fun k h1 h3 => by
     obtain rfl | rfl | rfl : k = 1 ∨ k = 2 ∨ k = 3 := by omega
     all_goals decide
   have := hk _ h.1 h.2
   have := wrtW_le (stN.getD (valI C o).toNat [])
   simp only [wd1, szW, bd1, List.map_cons, List.map_nil, List.sum_cons, List.sum_nil]
   omega
 | fre o =>
   simp only [wd1, szW, bd1, List.map_cons, List.map_nil, List.sum_cons, List.sum_nil]
   cases boolV C o <;> decide
 | dat o =>
   have := wrtW_hex data
   have h' : data.length ≤ 2304 := h
   simp only [wd1, szW, bd1, List.map_cons, List.map_nil, List.sum_cons, List.sum_nil]
   omega
 | op o =>
   have h1 := szW_le (n := 64) (ws := wd1 C items data (.op o)) (fun x hx => opA_w64 hx)
   have h2 : (wd1 C items data (.op o)).length ≤ 4 := opA_len _ _ _ _ _
   simp only [bd1]
   omega
 | res o =>
   have h1 := szW_le (n := 64) (ws := wd1 C items data (.res o)) (fun x hx => resA_w64 hx)
   have h2 : (wd1 C items data (.res o)).length ≤ 11 := resA_len _ _ _
   simp only [bd1]
   omega
 | look o => exact absurd h (by simp [Fit])
 | sht o => exact absurd h (by simp [Fit])
theorem szL {C : List Value} {items : Ws} {data : List UInt8} : ∀ {ts : List Th}, (∀ t ∈ ts, Fit C items data t) → szW (ts.flatMap (wd1 C items data)) ≤ (ts.map bd1).sum
 | [], h => by simp [szW]
 | t :: r, h => by
   have h1 := szL (fun x hx => h x (List.mem_cons_of_mem _ hx))
   have h2 := sz1 (h t (List.mem_cons_self))
   simp only [List.flatMap_cons, szW_app, List.map_cons, List.sum_cons]
   omega
theorem bdL (k : Int) : (((kindT k).flatMap sub).map bd1).sum ≤ 7000 := by
 unfold kindT
 repeat' split
 all_goals decide
theorem wdT_sub (C : List Value) (items : Ws) (data : List UInt8) : ∀ t : Th, wdT C items data t = (sub t).flatMap (wd1 C items data)
 | .look o => rfl
 | .sht o => rfl
 | .int o => by simp [wdT, sub]
 | .cod o => by simp [wdT, sub]
 | .fre o => by simp [wdT, sub]
 | .sta o => by simp [wdT, sub]
 | .dat o => by simp [wdT, sub]
 | .op o => by simp [wdT, sub]
 | .res o => by simp [wdT, sub]
theorem words_sub (e : Ev) (items : Ws) (data : List UInt8) : e.words items data = kdN.getD e.k.toNat [] :: ((kindT e.k).flatMap sub).flatMap (wd1 e.cells items data) := by
 unfold Ev.words
 congr 1
 rw [List.flatMap_assoc]
 congr 1
 funext t
 exact wdT_sub _ _ _ t
set_option linter.unusedVariables false
set_option maxRecDepth 100000
set_option maxHeartbeats 3200000
structure Ev.Rg (e : Ev) : Prop where
 a : e.a ≤ 9223372036854775807
 nb : e.nb ≤ 9223372036854775807
 nm : e.nm ≤ 9223372036854775807
 wh : e.wh ≤ 9223372036854775807
 cd : e.cd ≤ 9223372036854775807
 ec : e.ec ≤ 9223372036854775807
 en : e.en ≤ 9223372036854775807
 l0 : e.l0 ≤ 9223372036854775807
 l2 : e.l2 ≤ 9223372036854775807
 l3 : e.l3 ≤ 9223372036854775807
 l4 : e.l4 ≤ 9223372036854775807
 l5 : e.l5 ≤ 9223372036854775807
 l6 : e.l6 ≤ 9223372036854775807
 l7 : e.l7 ≤ 9223372036854775807
 sn : e.sn ≤ 9223372036854775807
 sa : e.sa ≤ 9223372036854775807
theorem left_empty {e : Ev} (h : e.inForm = true) : okL (kindT e.k) e.cells = true ∧ e.left.empty = true := by
 unfold Ev.inForm at h
 split at h
 · simp at h
 · simpa using h
theorem fit_of {e : Ev} {items : Ws} {data : List UInt8} (hF : e.inForm = true) (hX : ersL (er1 e.cells items) (kindT e.k) = 0) (hR : e.Rg) (hd : data.length = e.dik) : ∀ t ∈ (kindT e.k).flatMap sub, Fit e.cells items data t := by
 have hk := inForm_k hF
 have hO := (left_empty hF).1
 have hE := ersL_zero hX
 clear hX
 obtain hk | hk | hk | hk | hk | hk | hk | hk | hk | hk | hk : e.k = 1 ∨ e.k = 2 ∨ e.k = 3 ∨ e.k = 4 ∨ e.k = 5 ∨ e.k = 6 ∨ e.k = 7 ∨ e.k = 8 ∨ e.k = 9 ∨ e.k = 10 ∨ e.k = 11 := by omega
 · have hK : kindT e.k = [.int 1, .cod 5] := by rw [hk]; rfl
   rw [hK] at hO hE ⊢
   simp [okL, okT, okF, ok1, sub, clr, clrF, clr1, valI, Ev.cells] at hO
   intro t ht
   simp only [List.flatMap_cons, List.flatMap_nil, sub, List.cons_append, List.nil_append, List.mem_cons, List.not_mem_nil, or_false, List.append_nil] at ht
   rcases ht with rfl | rfl
   · exact ⟨by simp [valI, Ev.cells]; omega, hR.a⟩
   · exact ⟨by simp [valI, Ev.cells]; omega, hR.cd⟩
 · have hK : kindT e.k = [.int 1, .int 2, .op 7] := by rw [hk]; rfl
   rw [hK] at hO hE ⊢
   simp [okL, okT, okF, ok1, sub, clr, clrF, clr1, valI, Ev.cells] at hO
   intro t ht
   simp only [List.flatMap_cons, List.flatMap_nil, sub, List.cons_append, List.nil_append, List.mem_cons, List.not_mem_nil, or_false, List.append_nil] at ht
   rcases ht with rfl | rfl | rfl
   · exact ⟨by simp [valI, Ev.cells]; omega, hR.a⟩
   · exact ⟨by simp [valI, Ev.cells]; omega, hR.nb⟩
   · exact hE _ (by simp)
 · have hK : kindT e.k = [.int 1, .int 2, .int 4, .op 7] := by rw [hk]; rfl
   rw [hK] at hO hE ⊢
   simp [okL, okT, okF, ok1, sub, clr, clrF, clr1, valI, Ev.cells] at hO
   intro t ht
   simp only [List.flatMap_cons, List.flatMap_nil, sub, List.cons_append, List.nil_append, List.mem_cons, List.not_mem_nil, or_false, List.append_nil] at ht
   rcases ht with rfl | rfl | rfl | rfl
   · exact ⟨by simp [valI, Ev.cells]; omega, hR.a⟩
   · exact ⟨by simp [valI, Ev.cells]; omega, hR.nb⟩
   · exact ⟨by simp [valI, Ev.cells]; omega, hR.wh⟩
   · exact hE _ (by simp)
 · have hK : kindT e.k = [.int 1, .int 2, .int 3, .res 19] := by rw [hk]; rfl
   rw [hK] at hO hE ⊢
   simp [okL, okT, okF, ok1, sub, clr, clrF, clr1, valI, Ev.cells] at hO
   intro t ht
   simp only [List.flatMap_cons, List.flatMap_nil, sub, List.cons_append, List.nil_append, List.mem_cons, List.not_mem_nil, or_false, List.append_nil] at ht
   rcases ht with rfl | rfl | rfl | rfl
   · exact ⟨by simp [valI, Ev.cells]; omega, hR.a⟩
   · exact ⟨by simp [valI, Ev.cells]; omega, hR.nb⟩
   · exact ⟨by simp [valI, Ev.cells]; omega, hR.nm⟩
   · exact hE _ (by simp)
 · have hK : kindT e.k = [.int 1, .int 2, .int 3, .int 4, .res 19] := by rw [hk]; rfl
   rw [hK] at hO hE ⊢
   simp [okL, okT, okF, ok1, sub, clr, clrF, clr1, valI, Ev.cells] at hO
   intro t ht
   simp only [List.flatMap_cons, List.flatMap_nil, sub, List.cons_append, List.nil_append, List.mem_cons, List.not_mem_nil, or_false, List.append_nil] at ht
   rcases ht with rfl | rfl | rfl | rfl | rfl
   · exact ⟨by simp [valI, Ev.cells]; omega, hR.a⟩
   · exact ⟨by simp [valI, Ev.cells]; omega, hR.nb⟩
   · exact ⟨by simp [valI, Ev.cells]; omega, hR.nm⟩
   · exact ⟨by simp [valI, Ev.cells]; omega, hR.wh⟩
   · exact hE _ (by simp)
 · have hK : kindT e.k = [.int 1, .int 3, .fre 6, .int 12, .int 13, .op 14, .res 19] := by rw [hk]; rfl
   rw [hK] at hO hE ⊢
   simp [okL, okT, okF, ok1, sub, clr, clrF, clr1, valI, Ev.cells] at hO
   intro t ht
   simp only [List.flatMap_cons, List.flatMap_nil, sub, List.cons_append, List.nil_append, List.mem_cons, List.not_mem_nil, or_false, List.append_nil] at ht
   rcases ht with rfl | rfl | rfl | rfl | rfl | rfl | rfl
   · exact ⟨by simp [valI, Ev.cells]; omega, hR.a⟩
   · exact ⟨by simp [valI, Ev.cells]; omega, hR.nm⟩
   · exact trivial
   · exact ⟨by simp [valI, Ev.cells]; omega, hR.ec⟩
   · exact ⟨by simp [valI, Ev.cells]; omega, hR.en⟩
   · exact hE _ (by simp)
   · exact hE _ (by simp)
 · have hK : kindT e.k = [.int 1, .look 22] := by rw [hk]; rfl
   rw [hK] at hO hE ⊢
   simp [okL, okT, okF, ok1, sub, lookL, clr, clrF, clr1, valI, Ev.cells] at hO
   intro t ht
   simp only [List.flatMap_cons, List.flatMap_nil, sub, lookL, List.cons_append, List.nil_append, List.mem_cons, List.not_mem_nil, or_false, List.append_nil] at ht
   rcases ht with rfl | rfl | rfl | rfl | rfl | rfl | rfl | rfl | rfl
   · exact ⟨by simp [valI, Ev.cells]; omega, hR.a⟩
   · exact ⟨by simp [valI, Ev.cells]; omega, hR.l0⟩
   · exact ⟨by simp [valI, Ev.cells]; omega, by simp [valI, Ev.cells]; omega⟩
   · exact ⟨by simp [valI, Ev.cells]; omega, hR.l2⟩
   · exact ⟨by simp [valI, Ev.cells]; omega, hR.l3⟩
   · exact ⟨by simp [valI, Ev.cells]; omega, hR.l4⟩
   · exact ⟨by simp [valI, Ev.cells]; omega, hR.l5⟩
   · exact ⟨by simp [valI, Ev.cells]; omega, hR.l6⟩
   · exact ⟨by simp [valI, Ev.cells]; omega, hR.l7⟩
 · have hK : kindT e.k = [.int 1] := by rw [hk]; rfl
   rw [hK] at hO hE ⊢
   simp [okL, okT, okF, ok1, sub, valI, Ev.cells] at hO
   intro t ht
   simp only [List.flatMap_cons, List.flatMap_nil, sub, List.mem_cons, List.not_mem_nil, or_false, List.append_nil] at ht
   subst ht
   · exact ⟨by simp [valI, Ev.cells]; omega, hR.a⟩
 · have hK : kindT e.k = [.int 1] := by rw [hk]; rfl
   rw [hK] at hO hE ⊢
   simp [okL, okT, okF, ok1, sub, valI, Ev.cells] at hO
   intro t ht
   simp only [List.flatMap_cons, List.flatMap_nil, sub, List.mem_cons, List.not_mem_nil, or_false, List.append_nil] at ht
   subst ht
   · exact ⟨by simp [valI, Ev.cells]; omega, hR.a⟩
 · have hK : kindT e.k = [.int 1, .look 22] := by rw [hk]; rfl
   rw [hK] at hO hE ⊢
   simp [okL, okT, okF, ok1, sub, lookL, clr, clrF, clr1, valI, Ev.cells] at hO
   intro t ht
   simp only [List.flatMap_cons, List.flatMap_nil, sub, lookL, List.cons_append, List.nil_append, List.mem_cons, List.not_mem_nil, or_false, List.append_nil] at ht
   rcases ht with rfl | rfl | rfl | rfl | rfl | rfl | rfl | rfl | rfl
   · exact ⟨by simp [valI, Ev.cells]; omega, hR.a⟩
   · exact ⟨by simp [valI, Ev.cells]; omega, hR.l0⟩
   · exact ⟨by simp [valI, Ev.cells]; omega, by simp [valI, Ev.cells]; omega⟩
   · exact ⟨by simp [valI, Ev.cells]; omega, hR.l2⟩
   · exact ⟨by simp [valI, Ev.cells]; omega, hR.l3⟩
   · exact ⟨by simp [valI, Ev.cells]; omega, hR.l4⟩
   · exact ⟨by simp [valI, Ev.cells]; omega, hR.l5⟩
   · exact ⟨by simp [valI, Ev.cells]; omega, hR.l6⟩
   · exact ⟨by simp [valI, Ev.cells]; omega, hR.l7⟩
 · have hK : kindT e.k = [.int 1, .sht 30] := by rw [hk]; rfl
   rw [hK] at hO hE ⊢
   simp [okL, okT, okF, ok1, sub, shtL, clr, clrF, clr1, valI, lenS, Ev.cells] at hO
   intro t ht
   simp only [List.flatMap_cons, List.flatMap_nil, sub, shtL, List.cons_append, List.nil_append, List.mem_cons, List.not_mem_nil, or_false, List.append_nil] at ht
   rcases ht with rfl | rfl | rfl | rfl
   · exact ⟨by simp [valI, Ev.cells]; omega, hR.a⟩
   · exact ⟨by simp [valI, Ev.cells]; omega, hR.sn⟩
   · exact ⟨by simp [valI, Ev.cells]; omega, hR.sa⟩
   · show data.length ≤ 2304
     omega
set_option linter.unusedVariables false
set_option maxRecDepth 100000
set_option maxHeartbeats 6400000
theorem len_nil {α : Type} {l : List α} (h : l.length = 0) : l = [] := List.eq_nil_of_length_eq_zero h
def Ev.cells2 (e : Ev) (rv dv : Value) : List Value := (e.cells.set 21 rv).set 32 dv
theorem vs_cons {α : Type} {vs : List α} {n : Nat} (h : vs.length = n + 1) : ∃ v r, vs = v :: r ∧ r.length = n := by
 cases vs with
 | nil => simp at h
 | cons v r => exact ⟨v, r, rfl, by simpa using h⟩
theorem put_back {e : Ev} {items : Ws} {data : List UInt8} {vs : List Value} (hF : e.inForm = true) (hX : ersL (er1 e.cells items) (kindT e.k) = 0) (hi : items.length = e.rik) (hd : data.length = e.dik) (hv : vs.length = ((kindT e.k).flatMap sub).length) :
   ∃ rv dv, putL (Ev.zero e.k).cells ((kindT e.k).flatMap sub) (((kindT e.k).flatMap sub).map (ct1 e.cells items data)) vs = e.cells2 rv dv ∧
     ((ownL (((kindT e.k).flatMap sub).map (ct1 e.cells items data)) vs = [ownC 9 rv (txW items)] ∧ dv = .slice none 0 0 ∧ data = []) ∨ (ownL (((kindT e.k).flatMap sub).map (ct1 e.cells items data)) vs = [ownC 5 dv (cellsB data)] ∧ rv = .slice none 0 0 ∧ items = []) ∨ (ownL (((kindT e.k).flatMap sub).map (ct1 e.cells items data)) vs = [] ∧ rv = .slice none 0 0 ∧ dv = .slice none 0 0 ∧ items = [] ∧ data = [])) := by
 have hk := inForm_k hF
 have hO := (left_empty hF).2
 have hE := ersL_zero hX
 clear hX hF
 obtain hk | hk | hk | hk | hk | hk | hk | hk | hk | hk | hk : e.k = 1 ∨ e.k = 2 ∨ e.k = 3 ∨ e.k = 4 ∨ e.k = 5 ∨ e.k = 6 ∨ e.k = 7 ∨ e.k = 8 ∨ e.k = 9 ∨ e.k = 10 ∨ e.k = 11 := by omega
 · have hK : kindT e.k = [.int 1, .cod 5] := by rw [hk]; rfl
   rw [hK] at hE hv ⊢
   simp only [List.flatMap_cons, List.flatMap_nil, sub, List.cons_append, List.nil_append, List.append_nil, List.length_cons, List.length_nil] at hv ⊢
   obtain ⟨v0, vs0, rfl, hv0⟩ := vs_cons hv
   obtain ⟨v1, vs1, rfl, hv1⟩ := vs_cons hv0
   have hnil : vs1 = [] := len_nil hv1
   subst hnil
   simp [Ev.left, hk, Ev.empty, Ev.z_a, Ev.z_nb, Ev.z_nm, Ev.z_wh, Ev.z_cd, Ev.z_fr, Ev.z_op, Ev.z_en, Ev.z_lk, Ev.z_rc, Ev.z_rn, Ev.z_rk, Ev.z_sn, Ev.z_sa, Ev.z_dk] at hO
   refine ⟨.slice none 0 0, .slice none 0 0, ?_, Or.inr (Or.inr ⟨by simp [ownL, ownOf, ct1], rfl, rfl, len_nil (by rw [hi]; simp [hO]), len_nil (by rw [hd]; simp [hO])⟩)⟩
   simp only [putL, putC, ct1, Ev.cells2, Ev.cells, Ev.zero, valI, List.map_cons, List.map_nil, List.set_cons_succ, List.set_cons_zero, List.getElem?_cons_succ, List.getElem?_cons]
   simp [hO, hk]
 · have hK : kindT e.k = [.int 1, .int 2, .op 7] := by rw [hk]; rfl
   rw [hK] at hE hv ⊢
   simp only [List.flatMap_cons, List.flatMap_nil, sub, List.cons_append, List.nil_append, List.append_nil, List.length_cons, List.length_nil] at hv ⊢
   obtain ⟨v0, vs0, rfl, hv0⟩ := vs_cons hv
   obtain ⟨v1, vs1, rfl, hv1⟩ := vs_cons hv0
   obtain ⟨v2, vs2, rfl, hv2⟩ := vs_cons hv1
   have hnil : vs2 = [] := len_nil hv2
   subst hnil
   simp [Ev.left, hk, Ev.empty, Ev.z_a, Ev.z_nb, Ev.z_nm, Ev.z_wh, Ev.z_cd, Ev.z_fr, Ev.z_op, Ev.z_en, Ev.z_lk, Ev.z_rc, Ev.z_rn, Ev.z_rk, Ev.z_sn, Ev.z_sa, Ev.z_dk] at hO
   have hN7 := chkO_nn (hE (.op 7) (by simp))
   simp only [valI, strV, Ev.cells, List.getElem?_cons_succ, List.getElem?_cons_zero] at hN7
   refine ⟨.slice none 0 0, .slice none 0 0, ?_, Or.inr (Or.inr ⟨by simp [ownL, ownOf, ct1], rfl, rfl, len_nil (by rw [hi]; simp [hO]), len_nil (by rw [hd]; simp [hO])⟩)⟩
   simp only [putL, putC, ct1, setOp, Ev.cells2, Ev.cells, Ev.zero, valI, strV, List.map_cons, List.map_nil, List.set_cons_succ, List.set_cons_zero, List.getElem?_cons_succ, List.getElem?_cons]
   simp [hO, hk]
   omega
 · have hK : kindT e.k = [.int 1, .int 2, .int 4, .op 7] := by rw [hk]; rfl
   rw [hK] at hE hv ⊢
   simp only [List.flatMap_cons, List.flatMap_nil, sub, List.cons_append, List.nil_append, List.append_nil, List.length_cons, List.length_nil] at hv ⊢
   obtain ⟨v0, vs0, rfl, hv0⟩ := vs_cons hv
   obtain ⟨v1, vs1, rfl, hv1⟩ := vs_cons hv0
   obtain ⟨v2, vs2, rfl, hv2⟩ := vs_cons hv1
   obtain ⟨v3, vs3, rfl, hv3⟩ := vs_cons hv2
   have hnil : vs3 = [] := len_nil hv3
   subst hnil
   simp [Ev.left, hk, Ev.empty, Ev.z_a, Ev.z_nb, Ev.z_nm, Ev.z_wh, Ev.z_cd, Ev.z_fr, Ev.z_op, Ev.z_en, Ev.z_lk, Ev.z_rc, Ev.z_rn, Ev.z_rk, Ev.z_sn, Ev.z_sa, Ev.z_dk] at hO
   have hN7 := chkO_nn (hE (.op 7) (by simp))
   simp only [valI, strV, Ev.cells, List.getElem?_cons_succ, List.getElem?_cons_zero] at hN7
   refine ⟨.slice none 0 0, .slice none 0 0, ?_, Or.inr (Or.inr ⟨by simp [ownL, ownOf, ct1], rfl, rfl, len_nil (by rw [hi]; simp [hO]), len_nil (by rw [hd]; simp [hO])⟩)⟩
   simp only [putL, putC, ct1, setOp, Ev.cells2, Ev.cells, Ev.zero, valI, strV, List.map_cons, List.map_nil, List.set_cons_succ, List.set_cons_zero, List.getElem?_cons_succ, List.getElem?_cons]
   simp [hO, hk]
   omega
 · have hK : kindT e.k = [.int 1, .int 2, .int 3, .res 19] := by rw [hk]; rfl
   rw [hK] at hE hv ⊢
   simp only [List.flatMap_cons, List.flatMap_nil, sub, List.cons_append, List.nil_append, List.append_nil, List.length_cons, List.length_nil] at hv ⊢
   obtain ⟨v0, vs0, rfl, hv0⟩ := vs_cons hv
   obtain ⟨v1, vs1, rfl, hv1⟩ := vs_cons hv0
   obtain ⟨v2, vs2, rfl, hv2⟩ := vs_cons hv1
   obtain ⟨v3, vs3, rfl, hv3⟩ := vs_cons hv2
   have hnil : vs3 = [] := len_nil hv3
   subst hnil
   simp [Ev.left, hk, Ev.empty, Ev.z_a, Ev.z_nb, Ev.z_nm, Ev.z_wh, Ev.z_cd, Ev.z_fr, Ev.z_op, Ev.z_en, Ev.z_lk, Ev.z_rc, Ev.z_rn, Ev.z_rk, Ev.z_sn, Ev.z_sa, Ev.z_dk] at hO
   refine ⟨v3, .slice none 0 0, ?_, Or.inl ⟨by simp [ownL, ownOf, ct1], rfl, len_nil (by rw [hd]; simp [hO])⟩⟩
   simp only [putL, putC, ct1, setRes, Ev.cells2, Ev.cells, Ev.zero, valI, List.map_cons, List.map_nil, List.set_cons_succ, List.set_cons_zero, List.getElem?_cons_succ, List.getElem?_cons]
   simp [hO, hk]
 · have hK : kindT e.k = [.int 1, .int 2, .int 3, .int 4, .res 19] := by rw [hk]; rfl
   rw [hK] at hE hv ⊢
   simp only [List.flatMap_cons, List.flatMap_nil, sub, List.cons_append, List.nil_append, List.append_nil, List.length_cons, List.length_nil] at hv ⊢
   obtain ⟨v0, vs0, rfl, hv0⟩ := vs_cons hv
   obtain ⟨v1, vs1, rfl, hv1⟩ := vs_cons hv0
   obtain ⟨v2, vs2, rfl, hv2⟩ := vs_cons hv1
   obtain ⟨v3, vs3, rfl, hv3⟩ := vs_cons hv2
   obtain ⟨v4, vs4, rfl, hv4⟩ := vs_cons hv3
   have hnil : vs4 = [] := len_nil hv4
   subst hnil
   simp [Ev.left, hk, Ev.empty, Ev.z_a, Ev.z_nb, Ev.z_nm, Ev.z_wh, Ev.z_cd, Ev.z_fr, Ev.z_op, Ev.z_en, Ev.z_lk, Ev.z_rc, Ev.z_rn, Ev.z_rk, Ev.z_sn, Ev.z_sa, Ev.z_dk] at hO
   refine ⟨v4, .slice none 0 0, ?_, Or.inl ⟨by simp [ownL, ownOf, ct1], rfl, len_nil (by rw [hd]; simp [hO])⟩⟩
   simp only [putL, putC, ct1, setRes, Ev.cells2, Ev.cells, Ev.zero, valI, List.map_cons, List.map_nil, List.set_cons_succ, List.set_cons_zero, List.getElem?_cons_succ, List.getElem?_cons]
   simp [hO, hk]
 · have hK : kindT e.k = [.int 1, .int 3, .fre 6, .int 12, .int 13, .op 14, .res 19] := by rw [hk]; rfl
   rw [hK] at hE hv ⊢
   simp only [List.flatMap_cons, List.flatMap_nil, sub, List.cons_append, List.nil_append, List.append_nil, List.length_cons, List.length_nil] at hv ⊢
   obtain ⟨v0, vs0, rfl, hv0⟩ := vs_cons hv
   obtain ⟨v1, vs1, rfl, hv1⟩ := vs_cons hv0
   obtain ⟨v2, vs2, rfl, hv2⟩ := vs_cons hv1
   obtain ⟨v3, vs3, rfl, hv3⟩ := vs_cons hv2
   obtain ⟨v4, vs4, rfl, hv4⟩ := vs_cons hv3
   obtain ⟨v5, vs5, rfl, hv5⟩ := vs_cons hv4
   obtain ⟨v6, vs6, rfl, hv6⟩ := vs_cons hv5
   have hnil : vs6 = [] := len_nil hv6
   subst hnil
   simp [Ev.left, hk, Ev.empty, Ev.z_a, Ev.z_nb, Ev.z_nm, Ev.z_wh, Ev.z_cd, Ev.z_fr, Ev.z_op, Ev.z_en, Ev.z_lk, Ev.z_rc, Ev.z_rn, Ev.z_rk, Ev.z_sn, Ev.z_sa, Ev.z_dk] at hO
   have hN14 := chkO_nn (hE (.op 14) (by simp))
   simp only [valI, strV, Ev.cells, List.getElem?_cons_succ, List.getElem?_cons_zero] at hN14
   refine ⟨v6, .slice none 0 0, ?_, Or.inl ⟨by simp [ownL, ownOf, ct1], rfl, len_nil (by rw [hd]; simp [hO])⟩⟩
   simp only [putL, putC, ct1, setOp, setRes, Ev.cells2, Ev.cells, Ev.zero, valI, strV, boolV, List.map_cons, List.map_nil, List.set_cons_succ, List.set_cons_zero, List.getElem?_cons_succ, List.getElem?_cons]
   simp [hO, hk]
   omega
 · have hK : kindT e.k = [.int 1, .look 22] := by rw [hk]; rfl
   rw [hK] at hE hv ⊢
   simp only [List.flatMap_cons, List.flatMap_nil, sub, lookL, List.cons_append, List.nil_append, List.append_nil, List.length_cons, List.length_nil] at hv ⊢
   obtain ⟨v0, vs0, rfl, hv0⟩ := vs_cons hv
   obtain ⟨v1, vs1, rfl, hv1⟩ := vs_cons hv0
   obtain ⟨v2, vs2, rfl, hv2⟩ := vs_cons hv1
   obtain ⟨v3, vs3, rfl, hv3⟩ := vs_cons hv2
   obtain ⟨v4, vs4, rfl, hv4⟩ := vs_cons hv3
   obtain ⟨v5, vs5, rfl, hv5⟩ := vs_cons hv4
   obtain ⟨v6, vs6, rfl, hv6⟩ := vs_cons hv5
   obtain ⟨v7, vs7, rfl, hv7⟩ := vs_cons hv6
   obtain ⟨v8, vs8, rfl, hv8⟩ := vs_cons hv7
   have hnil : vs8 = [] := len_nil hv8
   subst hnil
   simp [Ev.left, hk, Ev.empty, Ev.z_a, Ev.z_nb, Ev.z_nm, Ev.z_wh, Ev.z_cd, Ev.z_fr, Ev.z_op, Ev.z_en, Ev.z_lk, Ev.z_rc, Ev.z_rn, Ev.z_rk, Ev.z_sn, Ev.z_sa, Ev.z_dk] at hO
   refine ⟨.slice none 0 0, .slice none 0 0, ?_, Or.inr (Or.inr ⟨by simp [ownL, ownOf, ct1], rfl, rfl, len_nil (by rw [hi]; simp [hO]), len_nil (by rw [hd]; simp [hO])⟩)⟩
   simp only [putL, putC, ct1, Ev.cells2, Ev.cells, Ev.zero, valI, List.map_cons, List.map_nil, List.set_cons_succ, List.set_cons_zero, List.getElem?_cons_succ, List.getElem?_cons]
   simp [hO, hk]
 · have hK : kindT e.k = [.int 1] := by rw [hk]; rfl
   rw [hK] at hE hv ⊢
   simp only [List.flatMap_cons, List.flatMap_nil, sub, List.append_nil, List.length_cons, List.length_nil] at hv ⊢
   obtain ⟨v0, vs0, rfl, hv0⟩ := vs_cons hv
   have hnil : vs0 = [] := len_nil hv0
   subst hnil
   simp [Ev.left, hk, Ev.empty, Ev.z_a, Ev.z_nb, Ev.z_nm, Ev.z_wh, Ev.z_cd, Ev.z_fr, Ev.z_op, Ev.z_en, Ev.z_lk, Ev.z_rc, Ev.z_rn, Ev.z_rk, Ev.z_sn, Ev.z_sa, Ev.z_dk] at hO
   refine ⟨.slice none 0 0, .slice none 0 0, ?_, Or.inr (Or.inr ⟨by simp [ownL, ownOf, ct1], rfl, rfl, len_nil (by rw [hi]; simp [hO]), len_nil (by rw [hd]; simp [hO])⟩)⟩
   simp only [putL, putC, ct1, Ev.cells2, Ev.cells, Ev.zero, valI, List.map_cons, List.map_nil, List.set_cons_succ, List.set_cons_zero, List.getElem?_cons_succ, List.getElem?_cons]
   simp [hO, hk]
 · have hK : kindT e.k = [.int 1] := by rw [hk]; rfl
   rw [hK] at hE hv ⊢
   simp only [List.flatMap_cons, List.flatMap_nil, sub, List.append_nil, List.length_cons, List.length_nil] at hv ⊢
   obtain ⟨v0, vs0, rfl, hv0⟩ := vs_cons hv
   have hnil : vs0 = [] := len_nil hv0
   subst hnil
   simp [Ev.left, hk, Ev.empty, Ev.z_a, Ev.z_nb, Ev.z_nm, Ev.z_wh, Ev.z_cd, Ev.z_fr, Ev.z_op, Ev.z_en, Ev.z_lk, Ev.z_rc, Ev.z_rn, Ev.z_rk, Ev.z_sn, Ev.z_sa, Ev.z_dk] at hO
   refine ⟨.slice none 0 0, .slice none 0 0, ?_, Or.inr (Or.inr ⟨by simp [ownL, ownOf, ct1], rfl, rfl, len_nil (by rw [hi]; simp [hO]), len_nil (by rw [hd]; simp [hO])⟩)⟩
   simp only [putL, putC, ct1, Ev.cells2, Ev.cells, Ev.zero, valI, List.map_cons, List.map_nil, List.set_cons_succ, List.set_cons_zero, List.getElem?_cons_succ, List.getElem?_cons]
   simp [hO, hk]
 · have hK : kindT e.k = [.int 1, .look 22] := by rw [hk]; rfl
   rw [hK] at hE hv ⊢
   simp only [List.flatMap_cons, List.flatMap_nil, sub, lookL, List.cons_append, List.nil_append, List.append_nil, List.length_cons, List.length_nil] at hv ⊢
   obtain ⟨v0, vs0, rfl, hv0⟩ := vs_cons hv
   obtain ⟨v1, vs1, rfl, hv1⟩ := vs_cons hv0
   obtain ⟨v2, vs2, rfl, hv2⟩ := vs_cons hv1
   obtain ⟨v3, vs3, rfl, hv3⟩ := vs_cons hv2
   obtain ⟨v4, vs4, rfl, hv4⟩ := vs_cons hv3
   obtain ⟨v5, vs5, rfl, hv5⟩ := vs_cons hv4
   obtain ⟨v6, vs6, rfl, hv6⟩ := vs_cons hv5
   obtain ⟨v7, vs7, rfl, hv7⟩ := vs_cons hv6
   obtain ⟨v8, vs8, rfl, hv8⟩ := vs_cons hv7
   have hnil : vs8 = [] := len_nil hv8
   subst hnil
   simp [Ev.left, hk, Ev.empty, Ev.z_a, Ev.z_nb, Ev.z_nm, Ev.z_wh, Ev.z_cd, Ev.z_fr, Ev.z_op, Ev.z_en, Ev.z_lk, Ev.z_rc, Ev.z_rn, Ev.z_rk, Ev.z_sn, Ev.z_sa, Ev.z_dk] at hO
   refine ⟨.slice none 0 0, .slice none 0 0, ?_, Or.inr (Or.inr ⟨by simp [ownL, ownOf, ct1], rfl, rfl, len_nil (by rw [hi]; simp [hO]), len_nil (by rw [hd]; simp [hO])⟩)⟩
   simp only [putL, putC, ct1, Ev.cells2, Ev.cells, Ev.zero, valI, List.map_cons, List.map_nil, List.set_cons_succ, List.set_cons_zero, List.getElem?_cons_succ, List.getElem?_cons]
   simp [hO, hk]
 · have hK : kindT e.k = [.int 1, .sht 30] := by rw [hk]; rfl
   rw [hK] at hE hv ⊢
   simp only [List.flatMap_cons, List.flatMap_nil, sub, shtL, List.cons_append, List.nil_append, List.append_nil, List.length_cons, List.length_nil] at hv ⊢
   obtain ⟨v0, vs0, rfl, hv0⟩ := vs_cons hv
   obtain ⟨v1, vs1, rfl, hv1⟩ := vs_cons hv0
   obtain ⟨v2, vs2, rfl, hv2⟩ := vs_cons hv1
   obtain ⟨v3, vs3, rfl, hv3⟩ := vs_cons hv2
   have hnil : vs3 = [] := len_nil hv3
   subst hnil
   simp [Ev.left, hk, Ev.empty, Ev.z_a, Ev.z_nb, Ev.z_nm, Ev.z_wh, Ev.z_cd, Ev.z_fr, Ev.z_op, Ev.z_en, Ev.z_lk, Ev.z_rc, Ev.z_rn, Ev.z_rk, Ev.z_sn, Ev.z_sa, Ev.z_dk] at hO
   refine ⟨.slice none 0 0, v3, ?_, Or.inr (Or.inl ⟨by simp [ownL, ownOf, ct1], rfl, len_nil (by rw [hi]; simp [hO])⟩)⟩
   simp only [putL, putC, ct1, Ev.cells2, Ev.cells, Ev.zero, valI, List.map_cons, List.map_nil, List.set_cons_succ, List.set_cons_zero, List.getElem?_cons_succ, List.getElem?_cons]
   simp [hO, hk]
set_option linter.unusedVariables false
set_option maxRecDepth 100000
set_option maxHeartbeats 6400000
def CtOk : Th → Ct → Prop
 | .int _, .int v => 0 ≤ v ∧ v ≤ 9223372036854775807
 | .cod _, .int v => 0 ≤ v ∧ v ≤ 9223372036854775807
 | .sta _, .int v => 1 ≤ v ∧ v ≤ 3
 | .fre _, .bool _ => True
 | .dat _, .dat d => d.length ≤ 2304
 | .op _, .op x => chkR8 x = 0
 | .res _, .res c n l => chkW c n l = 0
 | _, _ => False
def wdC : Th → Ct → Ws
 | .int _, .int v => [Lib.itoa v]
 | .cod _, .int v => [Lib.itoa v]
 | .sta _, .int v => [stN.getD v.toNat []]
 | .fre _, .bool b => [flagW b]
 | .dat _, .dat d => [hexW d]
 | .op _, .op x => opA x.k x.nm x.tx (x.n : Int) (x.m : Int)
 | .res _, .res c n l => resA c n l
 | _, _ => []
theorem num_ok {x : List UInt8} {v : Nat} (h : numW x = some v) : Lib.itoa (v : Int) = x ∧ v ≤ 9223372036854775807 := ⟨by rw [itoa_nat]; exact (numW_spelt h).symm, numW_le h⟩
theorem rd1_ok {t : Th} {l : Ws} (hf : flatT t = true) (h : (rd1 t l).1 = 0) : CtOk t (rd1 t l).2.2 ∧ wdC t (rd1 t l).2.2 = l.take (rd1 t l).2.1 ∧ (rd1 t l).2.1 ≤ l.length := by
 cases t with
 | int o =>
   cases l with
   | nil => simp [rd1] at h
   | cons x r =>
     cases hx : numW x with
     | none => simp [rd1, hx] at h
     | some v =>
       obtain ⟨e1, e2⟩ := num_ok hx
       simp only [rd1, hx, Option.getD_some]
       exact ⟨⟨by omega, by omega⟩, by simp [wdC, e1], by simp⟩
 | cod o =>
   cases l with
   | nil => simp [rd1] at h
   | cons x r =>
     cases hx : numW x with
     | none => simp [rd1, hx] at h
     | some v =>
       obtain ⟨e1, e2⟩ := num_ok hx
       simp only [rd1, hx, Option.getD_some]
       exact ⟨⟨by omega, by omega⟩, by simp [wdC, e1], by simp⟩
 | sta o =>
   cases l with
   | nil => simp [rd1] at h
   | cons x r =>
     cases hx : stW x with
     | none => simp [rd1, hx] at h
     | some v =>
       obtain ⟨e1, e2, e3⟩ := st_ok hx
       simp only [rd1, hx, Option.getD_some]
       exact ⟨⟨by omega, by omega⟩, by simp only [wdC, Int.toNat_natCast, e3]; rfl, by simp⟩
 | fre o =>
   cases l with
   | nil => simp [rd1] at h
   | cons x r =>
     simp only [rd1] at h ⊢
     refine ⟨trivial, ?_, by simp⟩
     by_cases h1 : x = [102, 114, 101, 115, 104]
     · subst h1; rfl
     · by_cases h2 : x = [111, 108, 100]
       · subst h2; rfl
       · simp [h1, h2] at h
 | dat o =>
   cases l with
   | nil => simp [rd1] at h
   | cons x r =>
     cases hx : datR x with
     | none => simp [rd1, hx] at h
     | some v =>
       obtain ⟨e1, e2⟩ := datR_ok hx
       simp only [rd1, hx, Option.getD_some]
       exact ⟨e2, by simp [wdC, e1], by simp⟩
 | op o => exact readO_ok h
 | res o => exact readR_ok h
 | look o => simp [flatT] at hf
 | sht o => simp [flatT] at hf
def CsOk : List Th → List Ct → Prop
 | [], [] => True
 | t :: r, c :: cs => CtOk t c ∧ CsOk r cs
 | _, _ => False
def wdCs : List Th → List Ct → Ws
 | t :: r, c :: cs => wdC t c ++ wdCs r cs
 | _, _ => []
theorem rdsL_ok : ∀ {ts : List Th} {l : Ws}, (∀ t ∈ ts, flatT t = true) → (rdsL ts l).1 = 0 → CsOk ts (rdsL ts l).2.2 ∧ wdCs ts (rdsL ts l).2.2 = l.take (rdsL ts l).2.1 ∧ (rdsL ts l).2.1 ≤ l.length
 | [], l, hf, h => ⟨trivial, rfl, Nat.zero_le _⟩
 | t :: r, l, hf, h => by
   rw [rdsL] at h ⊢
   by_cases h1 : (rd1 t l).1 ≠ 0
   · rw [if_pos h1] at h
     exact absurd h h1
   · have h1' : (rd1 t l).1 = 0 := by simpa using h1
     rw [if_neg h1] at h ⊢
     obtain ⟨a1, a2, a3⟩ := rd1_ok (hf t (List.mem_cons_self)) h1'
     obtain ⟨b1, b2, b3⟩ := rdsL_ok (fun x hx => hf x (List.mem_cons_of_mem _ hx)) h
     refine ⟨⟨a1, b1⟩, ?_, ?_⟩
     · simp only [wdCs, a2, b2]
       rw [List.take_add]
     · simp only
       rw [List.length_drop] at b3
       omega
theorem CsOk.cons {t : Th} {r : List Th} {cs : List Ct} (h : CsOk (t :: r) cs) : ∃ c q, cs = c :: q ∧ CtOk t c ∧ CsOk r q := by
 cases cs with
 | nil => exact absurd h (by simp [CsOk])
 | cons c q => exact ⟨c, q, rfl, h.1, h.2⟩
theorem CsOk.nil {cs : List Ct} (h : CsOk [] cs) : cs = [] := by
 cases cs with
 | nil => rfl
 | cons c q => exact absurd h (by simp [CsOk])
theorem CtOk.int {o : Nat} {c : Ct} (h : CtOk (.int o) c) : ∃ v, c = .int v ∧ 0 ≤ v ∧ v ≤ 9223372036854775807 := by
 cases c <;> first | exact ⟨_, rfl, h⟩ | exact absurd h (by simp [CtOk])
theorem CtOk.cod {o : Nat} {c : Ct} (h : CtOk (.cod o) c) : ∃ v, c = .int v ∧ 0 ≤ v ∧ v ≤ 9223372036854775807 := by
 cases c <;> first | exact ⟨_, rfl, h⟩ | exact absurd h (by simp [CtOk])
theorem CtOk.sta {o : Nat} {c : Ct} (h : CtOk (.sta o) c) : ∃ v, c = .int v ∧ 1 ≤ v ∧ v ≤ 3 := by
 cases c <;> first | exact ⟨_, rfl, h⟩ | exact absurd h (by simp [CtOk])
theorem CtOk.fre {o : Nat} {c : Ct} (h : CtOk (.fre o) c) : ∃ v, c = .bool v := by
 cases c <;> first | exact ⟨_, rfl⟩ | exact absurd h (by simp [CtOk])
theorem CtOk.dat {o : Nat} {c : Ct} (h : CtOk (.dat o) c) : ∃ v, c = .dat v ∧ v.length ≤ 2304 := by
 cases c <;> first | exact ⟨_, rfl, h⟩ | exact absurd h (by simp [CtOk])
theorem CtOk.op {o : Nat} {c : Ct} (h : CtOk (.op o) c) : ∃ v, c = .op v ∧ chkR8 v = 0 := by
 cases c <;> first | exact ⟨_, rfl, h⟩ | exact absurd h (by simp [CtOk])
theorem CtOk.res {o : Nat} {c : Ct} (h : CtOk (.res o) c) : ∃ a b l, c = .res a b l ∧ chkW a b l = 0 := by
 cases c <;> first | exact ⟨_, _, _, rfl, h⟩ | exact absurd h (by simp [CtOk])
def SlOf : Ct → Value → Prop
 | .dat d, v => ∃ a c, v = .slice a d.length c
 | .res _ _ l, v => ∃ a c, v = .slice a l.length c
 | _, _ => True
def SlL : List Ct → List Value → Prop
 | c :: cs, v :: vs => SlOf c v ∧ SlL cs vs
 | _, _ => True
theorem sub_flat (k : Int) : ∀ t ∈ (kindT k).flatMap sub, flatT t = true := by
 unfold kindT
 repeat' split
 all_goals decide
structure Rdn (k : Int) (r : Ws) (C : List Value) (os : List Comp) : Prop where
 ev : ∃ (e : Ev) (items : Ws) (data : List UInt8), C = e.cells ∧ e.k = k ∧ e.inForm = true ∧ e.err items = 0 ∧ e.Rg ∧ items.length = e.rik ∧ data.length = e.dik ∧ items.length ≤ 8 ∧ ((kindT k).flatMap sub).flatMap (wd1 e.cells items data) = r ∧
   ((os = [ownC 9 (.slice e.ria e.rik e.ric) (txW items)] ∧ e.dia = none ∧ e.dic = 0 ∧ data = []) ∨ (os = [ownC 5 (.slice e.dia e.dik e.dic) (cellsB data)] ∧ e.ria = none ∧ e.ric = 0 ∧ items = []) ∨ (os = [] ∧ e.ria = none ∧ e.ric = 0 ∧ e.dia = none ∧ e.dic = 0 ∧ items = [] ∧ data = []))
theorem Rg_zero (k : Int) : (Ev.zero k).Rg := by
 constructor <;> (simp only [Ev.zero]; decide)
theorem dec_all {a b : Bool} (ha : a = true) (hb : b = true) : (a && b) = true := by simp [ha, hb]
theorem read_ev {k : Int} {r : Ws} {vs : List Value} (hk : 1 ≤ k ∧ k ≤ 11) (h0 : (rdsL ((kindT k).flatMap sub) r).1 = 0) (hn : r.length ≤ (rdsL ((kindT k).flatMap sub) r).2.1) (hv : vs.length = ((kindT k).flatMap sub).length) (hS : SlL (rdsL ((kindT k).flatMap sub) r).2.2 vs) :
   Rdn k r (putL (Ev.zero k).cells ((kindT k).flatMap sub) (rdsL ((kindT k).flatMap sub) r).2.2 vs) (ownL (rdsL ((kindT k).flatMap sub) r).2.2 vs) := by
 obtain ⟨hC, hW, hL⟩ := rdsL_ok (sub_flat k) h0
 rw [List.take_of_length_le hn] at hW
 generalize (rdsL ((kindT k).flatMap sub) r).2.2 = cs at *
 clear h0 hn hL
 subst hW
 obtain rfl | rfl | rfl | rfl | rfl | rfl | rfl | rfl | rfl | rfl | rfl : k = 1 ∨ k = 2 ∨ k = 3 ∨ k = 4 ∨ k = 5 ∨ k = 6 ∨ k = 7 ∨ k = 8 ∨ k = 9 ∨ k = 10 ∨ k = 11 := by omega
 · have hK : kindT 1 = [.int 1, .cod 5] := rfl
   rw [hK] at hC hv ⊢
   simp only [List.flatMap_cons, List.flatMap_nil, sub, List.cons_append, List.nil_append, List.append_nil, List.length_cons, List.length_nil] at hC hv ⊢
   obtain ⟨v0, vs0, rfl, hv0⟩ := vs_cons hv
   obtain ⟨v1, vs1, rfl, hv1⟩ := vs_cons hv0
   have hnil : vs1 = [] := len_nil hv1
   subst hnil
   obtain ⟨c0, q0, rfl, hc0, hC0⟩ := hC.cons
   obtain ⟨x0, rfl, hl0, hu0⟩ := hc0.int
   obtain ⟨c1, q1, rfl, hc1, hC1⟩ := hC0.cons
   obtain ⟨x1, rfl, hl1, hu1⟩ := hc1.cod
   have hq : q1 = [] := hC1.nil
   subst hq
   have hF : Ev.inForm { Ev.zero 1 with a := x0, cd := x1 } = true := by
     unfold Ev.inForm
     rw [if_neg (by simp [Ev.zero])]
     refine dec_all ?_ ?_
     · rw [show kindT (Ev.k { Ev.zero 1 with a := x0, cd := x1 }) = [.int 1, .cod 5] from rfl]
       simp [okL, okT, okF, ok1, sub, clr, clrF, clr1, valI, Ev.cells, hl0, hl1]
     · simp [Ev.left, Ev.zero, Ev.empty, Ev.z_a, Ev.z_nb, Ev.z_nm, Ev.z_wh, Ev.z_cd, Ev.z_fr, Ev.z_op, Ev.z_en, Ev.z_lk, Ev.z_rc, Ev.z_rn, Ev.z_rk, Ev.z_sn, Ev.z_sa, Ev.z_dk]
   refine ⟨{ Ev.zero 1 with a := x0, cd := x1 }, [], [], ?_, rfl, hF, ?_, { Rg_zero 1 with a := hu0, cd := hu1 }, rfl, rfl, by decide, ?_, Or.inr (Or.inr ⟨by simp [ownL, ownOf], rfl, rfl, rfl, rfl, rfl, rfl⟩)⟩
   · simp [putL, putC, Ev.cells, Ev.zero]
   · unfold Ev.err
     rw [if_neg (by rw [hF]; simp), show kindT (Ev.k { Ev.zero 1 with a := x0, cd := x1 }) = [.int 1, .cod 5] from rfl]
     simp [ersL, er1]
   · rw [hK]
     simp [wdCs, wdC, wd1, valI, Ev.cells, sub]
 · have hK : kindT 2 = [.int 1, .int 2, .op 7] := rfl
   rw [hK] at hC hv ⊢
   simp only [List.flatMap_cons, List.flatMap_nil, sub, List.cons_append, List.nil_append, List.append_nil, List.length_cons, List.length_nil] at hC hv ⊢
   obtain ⟨v0, vs0, rfl, hv0⟩ := vs_cons hv
   obtain ⟨v1, vs1, rfl, hv1⟩ := vs_cons hv0
   obtain ⟨v2, vs2, rfl, hv2⟩ := vs_cons hv1
   have hnil : vs2 = [] := len_nil hv2
   subst hnil
   obtain ⟨c0, q0, rfl, hc0, hC0⟩ := hC.cons
   obtain ⟨x0, rfl, hl0, hu0⟩ := hc0.int
   obtain ⟨c1, q1, rfl, hc1, hC1⟩ := hC0.cons
   obtain ⟨x1, rfl, hl1, hu1⟩ := hc1.int
   obtain ⟨c2, q2, rfl, hc2, hC2⟩ := hC1.cons
   obtain ⟨x2, rfl, hu2⟩ := hc2.op
   have hq : q2 = [] := hC2.nil
   subst hq
   have hF : Ev.inForm { Ev.zero 2 with a := x0, nb := x1, ok := x2.k, onm := x2.nm, otx := x2.tx, on := (x2.n : Int), om := (x2.m : Int) } = true := by
     unfold Ev.inForm
     rw [if_neg (by simp [Ev.zero])]
     refine dec_all ?_ ?_
     · rw [show kindT (Ev.k { Ev.zero 2 with a := x0, nb := x1, ok := x2.k, onm := x2.nm, otx := x2.tx, on := (x2.n : Int), om := (x2.m : Int) }) = [.int 1, .int 2, .op 7] from rfl]
       simp [okL, okT, okF, ok1, sub, clr, clrF, clr1, valI, Ev.cells, hl0, hl1]
     · simp [Ev.left, Ev.zero, Ev.empty, Ev.z_a, Ev.z_nb, Ev.z_nm, Ev.z_wh, Ev.z_cd, Ev.z_fr, Ev.z_op, Ev.z_en, Ev.z_lk, Ev.z_rc, Ev.z_rn, Ev.z_rk, Ev.z_sn, Ev.z_sa, Ev.z_dk]
   refine ⟨{ Ev.zero 2 with a := x0, nb := x1, ok := x2.k, onm := x2.nm, otx := x2.tx, on := (x2.n : Int), om := (x2.m : Int) }, [], [], ?_, rfl, hF, ?_, { Rg_zero 2 with a := hu0, nb := hu1 }, rfl, rfl, by decide, ?_, Or.inr (Or.inr ⟨by simp [ownL, ownOf], rfl, rfl, rfl, rfl, rfl, rfl⟩)⟩
   · simp [putL, putC, setOp, Ev.cells, Ev.zero]
   · unfold Ev.err
     rw [if_neg (by rw [hF]; simp), show kindT (Ev.k { Ev.zero 2 with a := x0, nb := x1, ok := x2.k, onm := x2.nm, otx := x2.tx, on := (x2.n : Int), om := (x2.m : Int) }) = [.int 1, .int 2, .op 7] from rfl]
     simp [ersL, er1, valI, strV, Ev.cells, show chkO x2.k x2.nm x2.tx (x2.n : Int) (x2.m : Int) = 0 from hu2]
   · rw [hK]
     simp [wdCs, wdC, wd1, valI, strV, Ev.cells, sub]
 · have hK : kindT 3 = [.int 1, .int 2, .int 4, .op 7] := rfl
   rw [hK] at hC hv ⊢
   simp only [List.flatMap_cons, List.flatMap_nil, sub, List.cons_append, List.nil_append, List.append_nil, List.length_cons, List.length_nil] at hC hv ⊢
   obtain ⟨v0, vs0, rfl, hv0⟩ := vs_cons hv
   obtain ⟨v1, vs1, rfl, hv1⟩ := vs_cons hv0
   obtain ⟨v2, vs2, rfl, hv2⟩ := vs_cons hv1
   obtain ⟨v3, vs3, rfl, hv3⟩ := vs_cons hv2
   have hnil : vs3 = [] := len_nil hv3
   subst hnil
   obtain ⟨c0, q0, rfl, hc0, hC0⟩ := hC.cons
   obtain ⟨x0, rfl, hl0, hu0⟩ := hc0.int
   obtain ⟨c1, q1, rfl, hc1, hC1⟩ := hC0.cons
   obtain ⟨x1, rfl, hl1, hu1⟩ := hc1.int
   obtain ⟨c2, q2, rfl, hc2, hC2⟩ := hC1.cons
   obtain ⟨x2, rfl, hl2, hu2⟩ := hc2.int
   obtain ⟨c3, q3, rfl, hc3, hC3⟩ := hC2.cons
   obtain ⟨x3, rfl, hu3⟩ := hc3.op
   have hq : q3 = [] := hC3.nil
   subst hq
   have hF : Ev.inForm { Ev.zero 3 with a := x0, nb := x1, wh := x2, ok := x3.k, onm := x3.nm, otx := x3.tx, on := (x3.n : Int), om := (x3.m : Int) } = true := by
     unfold Ev.inForm
     rw [if_neg (by simp [Ev.zero])]
     refine dec_all ?_ ?_
     · rw [show kindT (Ev.k { Ev.zero 3 with a := x0, nb := x1, wh := x2, ok := x3.k, onm := x3.nm, otx := x3.tx, on := (x3.n : Int), om := (x3.m : Int) }) = [.int 1, .int 2, .int 4, .op 7] from rfl]
       simp [okL, okT, okF, ok1, sub, clr, clrF, clr1, valI, Ev.cells, hl0, hl1, hl2]
     · simp [Ev.left, Ev.zero, Ev.empty, Ev.z_a, Ev.z_nb, Ev.z_nm, Ev.z_wh, Ev.z_cd, Ev.z_fr, Ev.z_op, Ev.z_en, Ev.z_lk, Ev.z_rc, Ev.z_rn, Ev.z_rk, Ev.z_sn, Ev.z_sa, Ev.z_dk]
   refine ⟨{ Ev.zero 3 with a := x0, nb := x1, wh := x2, ok := x3.k, onm := x3.nm, otx := x3.tx, on := (x3.n : Int), om := (x3.m : Int) }, [], [], ?_, rfl, hF, ?_, { Rg_zero 3 with a := hu0, nb := hu1, wh := hu2 }, rfl, rfl, by decide, ?_, Or.inr (Or.inr ⟨by simp [ownL, ownOf], rfl, rfl, rfl, rfl, rfl, rfl⟩)⟩
   · simp [putL, putC, setOp, Ev.cells, Ev.zero]
   · unfold Ev.err
     rw [if_neg (by rw [hF]; simp), show kindT (Ev.k { Ev.zero 3 with a := x0, nb := x1, wh := x2, ok := x3.k, onm := x3.nm, otx := x3.tx, on := (x3.n : Int), om := (x3.m : Int) }) = [.int 1, .int 2, .int 4, .op 7] from rfl]
     simp [ersL, er1, valI, strV, Ev.cells, show chkO x3.k x3.nm x3.tx (x3.n : Int) (x3.m : Int) = 0 from hu3]
   · rw [hK]
     simp [wdCs, wdC, wd1, valI, strV, Ev.cells, sub]
 · have hK : kindT 4 = [.int 1, .int 2, .int 3, .res 19] := rfl
   rw [hK] at hC hv ⊢
   simp only [List.flatMap_cons, List.flatMap_nil, sub, List.cons_append, List.nil_append, List.append_nil, List.length_cons, List.length_nil] at hC hv ⊢
   obtain ⟨v0, vs0, rfl, hv0⟩ := vs_cons hv
   obtain ⟨v1, vs1, rfl, hv1⟩ := vs_cons hv0
   obtain ⟨v2, vs2, rfl, hv2⟩ := vs_cons hv1
   obtain ⟨v3, vs3, rfl, hv3⟩ := vs_cons hv2
   have hnil : vs3 = [] := len_nil hv3
   subst hnil
   obtain ⟨c0, q0, rfl, hc0, hC0⟩ := hC.cons
   obtain ⟨x0, rfl, hl0, hu0⟩ := hc0.int
   obtain ⟨c1, q1, rfl, hc1, hC1⟩ := hC0.cons
   obtain ⟨x1, rfl, hl1, hu1⟩ := hc1.int
   obtain ⟨c2, q2, rfl, hc2, hC2⟩ := hC1.cons
   obtain ⟨x2, rfl, hl2, hu2⟩ := hc2.int
   obtain ⟨c3, q3, rfl, hc3, hC3⟩ := hC2.cons
   obtain ⟨x3, y3, l3, rfl, hu3⟩ := hc3.res
   have hq : q3 = [] := hC3.nil
   subst hq
   obtain ⟨sa, sc, hs⟩ : ∃ a c, v3 = .slice a l3.length c := by simpa [SlL, SlOf] using hS
   subst hs
   have hF : Ev.inForm { Ev.zero 4 with a := x0, nb := x1, nm := x2, rc := x3, rn := y3, ria := sa, rik := l3.length, ric := sc } = true := by
     unfold Ev.inForm
     rw [if_neg (by simp [Ev.zero])]
     refine dec_all ?_ ?_
     · rw [show kindT (Ev.k { Ev.zero 4 with a := x0, nb := x1, nm := x2, rc := x3, rn := y3, ria := sa, rik := l3.length, ric := sc }) = [.int 1, .int 2, .int 3, .res 19] from rfl]
       simp [okL, okT, okF, ok1, sub, clr, clrF, clr1, valI, Ev.cells, hl0, hl1, hl2]
     · simp [Ev.left, Ev.zero, Ev.empty, Ev.z_a, Ev.z_nb, Ev.z_nm, Ev.z_wh, Ev.z_cd, Ev.z_fr, Ev.z_op, Ev.z_en, Ev.z_lk, Ev.z_rc, Ev.z_rn, Ev.z_rk, Ev.z_sn, Ev.z_sa, Ev.z_dk]
   refine ⟨{ Ev.zero 4 with a := x0, nb := x1, nm := x2, rc := x3, rn := y3, ria := sa, rik := l3.length, ric := sc }, l3, [], ?_, rfl, hF, ?_, { Rg_zero 4 with a := hu0, nb := hu1, nm := hu2 }, rfl, rfl, (chk_zero hu3).2.2.2.2.2.1, ?_, Or.inl ⟨by simp [ownL, ownOf], rfl, rfl, rfl⟩⟩
   · simp [putL, putC, setRes, Ev.cells, Ev.zero]
   · unfold Ev.err
     rw [if_neg (by rw [hF]; simp), show kindT (Ev.k { Ev.zero 4 with a := x0, nb := x1, nm := x2, rc := x3, rn := y3, ria := sa, rik := l3.length, ric := sc }) = [.int 1, .int 2, .int 3, .res 19] from rfl]
     simp [ersL, er1, valI, Ev.cells, hu3]
   · rw [hK]
     simp [wdCs, wdC, wd1, valI, Ev.cells, sub]
 · have hK : kindT 5 = [.int 1, .int 2, .int 3, .int 4, .res 19] := rfl
   rw [hK] at hC hv ⊢
   simp only [List.flatMap_cons, List.flatMap_nil, sub, List.cons_append, List.nil_append, List.append_nil, List.length_cons, List.length_nil] at hC hv ⊢
   obtain ⟨v0, vs0, rfl, hv0⟩ := vs_cons hv
   obtain ⟨v1, vs1, rfl, hv1⟩ := vs_cons hv0
   obtain ⟨v2, vs2, rfl, hv2⟩ := vs_cons hv1
   obtain ⟨v3, vs3, rfl, hv3⟩ := vs_cons hv2
   obtain ⟨v4, vs4, rfl, hv4⟩ := vs_cons hv3
   have hnil : vs4 = [] := len_nil hv4
   subst hnil
   obtain ⟨c0, q0, rfl, hc0, hC0⟩ := hC.cons
   obtain ⟨x0, rfl, hl0, hu0⟩ := hc0.int
   obtain ⟨c1, q1, rfl, hc1, hC1⟩ := hC0.cons
   obtain ⟨x1, rfl, hl1, hu1⟩ := hc1.int
   obtain ⟨c2, q2, rfl, hc2, hC2⟩ := hC1.cons
   obtain ⟨x2, rfl, hl2, hu2⟩ := hc2.int
   obtain ⟨c3, q3, rfl, hc3, hC3⟩ := hC2.cons
   obtain ⟨x3, rfl, hl3, hu3⟩ := hc3.int
   obtain ⟨c4, q4, rfl, hc4, hC4⟩ := hC3.cons
   obtain ⟨x4, y4, l4, rfl, hu4⟩ := hc4.res
   have hq : q4 = [] := hC4.nil
   subst hq
   obtain ⟨sa, sc, hs⟩ : ∃ a c, v4 = .slice a l4.length c := by simpa [SlL, SlOf] using hS
   subst hs
   have hF : Ev.inForm { Ev.zero 5 with a := x0, nb := x1, nm := x2, wh := x3, rc := x4, rn := y4, ria := sa, rik := l4.length, ric := sc } = true := by
     unfold Ev.inForm
     rw [if_neg (by simp [Ev.zero])]
     refine dec_all ?_ ?_
     · rw [show kindT (Ev.k { Ev.zero 5 with a := x0, nb := x1, nm := x2, wh := x3, rc := x4, rn := y4, ria := sa, rik := l4.length, ric := sc }) = [.int 1, .int 2, .int 3, .int 4, .res 19] from rfl]
       simp [okL, okT, okF, ok1, sub, clr, clrF, clr1, valI, Ev.cells, hl0, hl1, hl2, hl3]
     · simp [Ev.left, Ev.zero, Ev.empty, Ev.z_a, Ev.z_nb, Ev.z_nm, Ev.z_wh, Ev.z_cd, Ev.z_fr, Ev.z_op, Ev.z_en, Ev.z_lk, Ev.z_rc, Ev.z_rn, Ev.z_rk, Ev.z_sn, Ev.z_sa, Ev.z_dk]
   refine ⟨{ Ev.zero 5 with a := x0, nb := x1, nm := x2, wh := x3, rc := x4, rn := y4, ria := sa, rik := l4.length, ric := sc }, l4, [], ?_, rfl, hF, ?_, { Rg_zero 5 with a := hu0, nb := hu1, nm := hu2, wh := hu3 }, rfl, rfl, (chk_zero hu4).2.2.2.2.2.1, ?_, Or.inl ⟨by simp [ownL, ownOf], rfl, rfl, rfl⟩⟩
   · simp [putL, putC, setRes, Ev.cells, Ev.zero]
   · unfold Ev.err
     rw [if_neg (by rw [hF]; simp), show kindT (Ev.k { Ev.zero 5 with a := x0, nb := x1, nm := x2, wh := x3, rc := x4, rn := y4, ria := sa, rik := l4.length, ric := sc }) = [.int 1, .int 2, .int 3, .int 4, .res 19] from rfl]
     simp [ersL, er1, valI, Ev.cells, hu4]
   · rw [hK]
     simp [wdCs, wdC, wd1, valI, Ev.cells, sub]
 · have hK : kindT 6 = [.int 1, .int 3, .fre 6, .int 12, .int 13, .op 14, .res 19] := rfl
   rw [hK] at hC hv ⊢
   simp only [List.flatMap_cons, List.flatMap_nil, sub, List.cons_append, List.nil_append, List.append_nil, List.length_cons, List.length_nil] at hC hv ⊢
   obtain ⟨v0, vs0, rfl, hv0⟩ := vs_cons hv
   obtain ⟨v1, vs1, rfl, hv1⟩ := vs_cons hv0
   obtain ⟨v2, vs2, rfl, hv2⟩ := vs_cons hv1
   obtain ⟨v3, vs3, rfl, hv3⟩ := vs_cons hv2
   obtain ⟨v4, vs4, rfl, hv4⟩ := vs_cons hv3
   obtain ⟨v5, vs5, rfl, hv5⟩ := vs_cons hv4
   obtain ⟨v6, vs6, rfl, hv6⟩ := vs_cons hv5
   have hnil : vs6 = [] := len_nil hv6
   subst hnil
   obtain ⟨c0, q0, rfl, hc0, hC0⟩ := hC.cons
   obtain ⟨x0, rfl, hl0, hu0⟩ := hc0.int
   obtain ⟨c1, q1, rfl, hc1, hC1⟩ := hC0.cons
   obtain ⟨x1, rfl, hl1, hu1⟩ := hc1.int
   obtain ⟨c2, q2, rfl, hc2, hC2⟩ := hC1.cons
   obtain ⟨x2, rfl⟩ := hc2.fre
   obtain ⟨c3, q3, rfl, hc3, hC3⟩ := hC2.cons
   obtain ⟨x3, rfl, hl3, hu3⟩ := hc3.int
   obtain ⟨c4, q4, rfl, hc4, hC4⟩ := hC3.cons
   obtain ⟨x4, rfl, hl4, hu4⟩ := hc4.int
   obtain ⟨c5, q5, rfl, hc5, hC5⟩ := hC4.cons
   obtain ⟨x5, rfl, hu5⟩ := hc5.op
   obtain ⟨c6, q6, rfl, hc6, hC6⟩ := hC5.cons
   obtain ⟨x6, y6, l6, rfl, hu6⟩ := hc6.res
   have hq : q6 = [] := hC6.nil
   subst hq
   obtain ⟨sa, sc, hs⟩ : ∃ a c, v6 = .slice a l6.length c := by simpa [SlL, SlOf] using hS
   subst hs
   have hF : Ev.inForm { Ev.zero 6 with a := x0, nm := x1, fr := x2, ec := x3, en := x4, pk := x5.k, pnm := x5.nm, ptx := x5.tx, pn := (x5.n : Int), pm := (x5.m : Int), rc := x6, rn := y6, ria := sa, rik := l6.length, ric := sc } = true := by
     unfold Ev.inForm
     rw [if_neg (by simp [Ev.zero])]
     refine dec_all ?_ ?_
     · rw [show kindT (Ev.k { Ev.zero 6 with a := x0, nm := x1, fr := x2, ec := x3, en := x4, pk := x5.k, pnm := x5.nm, ptx := x5.tx, pn := (x5.n : Int), pm := (x5.m : Int), rc := x6, rn := y6, ria := sa, rik := l6.length, ric := sc }) = [.int 1, .int 3, .fre 6, .int 12, .int 13, .op 14, .res 19] from rfl]
       simp [okL, okT, okF, ok1, sub, clr, clrF, clr1, valI, Ev.cells, hl0, hl1, hl3, hl4]
     · simp [Ev.left, Ev.zero, Ev.empty, Ev.z_a, Ev.z_nb, Ev.z_nm, Ev.z_wh, Ev.z_cd, Ev.z_fr, Ev.z_op, Ev.z_en, Ev.z_lk, Ev.z_rc, Ev.z_rn, Ev.z_rk, Ev.z_sn, Ev.z_sa, Ev.z_dk]
   refine ⟨{ Ev.zero 6 with a := x0, nm := x1, fr := x2, ec := x3, en := x4, pk := x5.k, pnm := x5.nm, ptx := x5.tx, pn := (x5.n : Int), pm := (x5.m : Int), rc := x6, rn := y6, ria := sa, rik := l6.length, ric := sc }, l6, [], ?_, rfl, hF, ?_, { Rg_zero 6 with a := hu0, nm := hu1, ec := hu3, en := hu4 }, rfl, rfl, (chk_zero hu6).2.2.2.2.2.1, ?_, Or.inl ⟨by simp [ownL, ownOf], rfl, rfl, rfl⟩⟩
   · simp [putL, putC, setOp, setRes, Ev.cells, Ev.zero]
   · unfold Ev.err
     rw [if_neg (by rw [hF]; simp), show kindT (Ev.k { Ev.zero 6 with a := x0, nm := x1, fr := x2, ec := x3, en := x4, pk := x5.k, pnm := x5.nm, ptx := x5.tx, pn := (x5.n : Int), pm := (x5.m : Int), rc := x6, rn := y6, ria := sa, rik := l6.length, ric := sc }) = [.int 1, .int 3, .fre 6, .int 12, .int 13, .op 14, .res 19] from rfl]
     simp [ersL, er1, valI, strV, Ev.cells, show chkO x5.k x5.nm x5.tx (x5.n : Int) (x5.m : Int) = 0 from hu5, hu6]
   · rw [hK]
     simp [wdCs, wdC, wd1, valI, strV, boolV, Ev.cells, sub]
 · have hK : kindT 7 = [.int 1, .look 22] := rfl
   rw [hK] at hC hv ⊢
   simp only [List.flatMap_cons, List.flatMap_nil, sub, lookL, List.cons_append, List.nil_append, List.append_nil, List.length_cons, List.length_nil] at hC hv ⊢
   obtain ⟨v0, vs0, rfl, hv0⟩ := vs_cons hv
   obtain ⟨v1, vs1, rfl, hv1⟩ := vs_cons hv0
   obtain ⟨v2, vs2, rfl, hv2⟩ := vs_cons hv1
   obtain ⟨v3, vs3, rfl, hv3⟩ := vs_cons hv2
   obtain ⟨v4, vs4, rfl, hv4⟩ := vs_cons hv3
   obtain ⟨v5, vs5, rfl, hv5⟩ := vs_cons hv4
   obtain ⟨v6, vs6, rfl, hv6⟩ := vs_cons hv5
   obtain ⟨v7, vs7, rfl, hv7⟩ := vs_cons hv6
   obtain ⟨v8, vs8, rfl, hv8⟩ := vs_cons hv7
   have hnil : vs8 = [] := len_nil hv8
   subst hnil
   obtain ⟨c0, q0, rfl, hc0, hC0⟩ := hC.cons
   obtain ⟨x0, rfl, hl0, hu0⟩ := hc0.int
   obtain ⟨c1, q1, rfl, hc1, hC1⟩ := hC0.cons
   obtain ⟨x1, rfl, hl1, hu1⟩ := hc1.int
   obtain ⟨c2, q2, rfl, hc2, hC2⟩ := hC1.cons
   obtain ⟨x2, rfl, hl2, hu2⟩ := hc2.sta
   obtain ⟨c3, q3, rfl, hc3, hC3⟩ := hC2.cons
   obtain ⟨x3, rfl, hl3, hu3⟩ := hc3.int
   obtain ⟨c4, q4, rfl, hc4, hC4⟩ := hC3.cons
   obtain ⟨x4, rfl, hl4, hu4⟩ := hc4.int
   obtain ⟨c5, q5, rfl, hc5, hC5⟩ := hC4.cons
   obtain ⟨x5, rfl, hl5, hu5⟩ := hc5.int
   obtain ⟨c6, q6, rfl, hc6, hC6⟩ := hC5.cons
   obtain ⟨x6, rfl, hl6, hu6⟩ := hc6.int
   obtain ⟨c7, q7, rfl, hc7, hC7⟩ := hC6.cons
   obtain ⟨x7, rfl, hl7, hu7⟩ := hc7.int
   obtain ⟨c8, q8, rfl, hc8, hC8⟩ := hC7.cons
   obtain ⟨x8, rfl, hl8, hu8⟩ := hc8.int
   have hq : q8 = [] := hC8.nil
   subst hq
   have hF : Ev.inForm { Ev.zero 7 with a := x0, l0 := x1, l1 := x2, l2 := x3, l3 := x4, l4 := x5, l5 := x6, l6 := x7, l7 := x8 } = true := by
     unfold Ev.inForm
     rw [if_neg (by simp [Ev.zero])]
     refine dec_all ?_ ?_
     · rw [show kindT (Ev.k { Ev.zero 7 with a := x0, l0 := x1, l1 := x2, l2 := x3, l3 := x4, l4 := x5, l5 := x6, l6 := x7, l7 := x8 }) = [.int 1, .look 22] from rfl]
       simp [okL, okT, okF, ok1, sub, lookL, clr, clrF, clr1, valI, Ev.cells, hl0, hl1, hl2, hl3, hl4, hl5, hl6, hl7, hl8, hu2]
     · simp [Ev.left, Ev.zero, Ev.empty, Ev.z_a, Ev.z_nb, Ev.z_nm, Ev.z_wh, Ev.z_cd, Ev.z_fr, Ev.z_op, Ev.z_en, Ev.z_lk, Ev.z_rc, Ev.z_rn, Ev.z_rk, Ev.z_sn, Ev.z_sa, Ev.z_dk]
   refine ⟨{ Ev.zero 7 with a := x0, l0 := x1, l1 := x2, l2 := x3, l3 := x4, l4 := x5, l5 := x6, l6 := x7, l7 := x8 }, [], [], ?_, rfl, hF, ?_, { Rg_zero 7 with a := hu0, l0 := hu1, l2 := hu3, l3 := hu4, l4 := hu5, l5 := hu6, l6 := hu7, l7 := hu8 }, rfl, rfl, by decide, ?_, Or.inr (Or.inr ⟨by simp [ownL, ownOf], rfl, rfl, rfl, rfl, rfl, rfl⟩)⟩
   · simp [putL, putC, Ev.cells, Ev.zero]
   · unfold Ev.err
     rw [if_neg (by rw [hF]; simp), show kindT (Ev.k { Ev.zero 7 with a := x0, l0 := x1, l1 := x2, l2 := x3, l3 := x4, l4 := x5, l5 := x6, l6 := x7, l7 := x8 }) = [.int 1, .look 22] from rfl]
     simp [ersL, er1]
   · rw [hK]
     simp [wdCs, wdC, wd1, valI, Ev.cells, sub, lookL]
 · have hK : kindT 8 = [.int 1] := rfl
   rw [hK] at hC hv ⊢
   simp only [List.flatMap_cons, List.flatMap_nil, sub, List.append_nil, List.length_cons, List.length_nil] at hC hv ⊢
   obtain ⟨v0, vs0, rfl, hv0⟩ := vs_cons hv
   have hnil : vs0 = [] := len_nil hv0
   subst hnil
   obtain ⟨c0, q0, rfl, hc0, hC0⟩ := hC.cons
   obtain ⟨x0, rfl, hl0, hu0⟩ := hc0.int
   have hq : q0 = [] := hC0.nil
   subst hq
   have hF : Ev.inForm { Ev.zero 8 with a := x0 } = true := by
     unfold Ev.inForm
     rw [if_neg (by simp [Ev.zero])]
     refine dec_all ?_ ?_
     · rw [show kindT (Ev.k { Ev.zero 8 with a := x0 }) = [.int 1] from rfl]
       simp [okL, okT, okF, ok1, sub, valI, Ev.cells, hl0]
     · simp [Ev.left, Ev.zero, Ev.empty, Ev.z_a, Ev.z_nb, Ev.z_nm, Ev.z_wh, Ev.z_cd, Ev.z_fr, Ev.z_op, Ev.z_en, Ev.z_lk, Ev.z_rc, Ev.z_rn, Ev.z_rk, Ev.z_sn, Ev.z_sa, Ev.z_dk]
   refine ⟨{ Ev.zero 8 with a := x0 }, [], [], ?_, rfl, hF, ?_, { Rg_zero 8 with a := hu0 }, rfl, rfl, by decide, ?_, Or.inr (Or.inr ⟨by simp [ownL, ownOf], rfl, rfl, rfl, rfl, rfl, rfl⟩)⟩
   · simp [putL, putC, Ev.cells, Ev.zero]
   · unfold Ev.err
     rw [if_neg (by rw [hF]; simp), show kindT (Ev.k { Ev.zero 8 with a := x0 }) = [.int 1] from rfl]
     simp [ersL, er1]
   · rw [hK]
     simp [wdCs, wdC, wd1, valI, Ev.cells, sub]
 · have hK : kindT 9 = [.int 1] := rfl
   rw [hK] at hC hv ⊢
   simp only [List.flatMap_cons, List.flatMap_nil, sub, List.append_nil, List.length_cons, List.length_nil] at hC hv ⊢
   obtain ⟨v0, vs0, rfl, hv0⟩ := vs_cons hv
   have hnil : vs0 = [] := len_nil hv0
   subst hnil
   obtain ⟨c0, q0, rfl, hc0, hC0⟩ := hC.cons
   obtain ⟨x0, rfl, hl0, hu0⟩ := hc0.int
   have hq : q0 = [] := hC0.nil
   subst hq
   have hF : Ev.inForm { Ev.zero 9 with a := x0 } = true := by
     unfold Ev.inForm
     rw [if_neg (by simp [Ev.zero])]
     refine dec_all ?_ ?_
     · rw [show kindT (Ev.k { Ev.zero 9 with a := x0 }) = [.int 1] from rfl]
       simp [okL, okT, okF, ok1, sub, valI, Ev.cells, hl0]
     · simp [Ev.left, Ev.zero, Ev.empty, Ev.z_a, Ev.z_nb, Ev.z_nm, Ev.z_wh, Ev.z_cd, Ev.z_fr, Ev.z_op, Ev.z_en, Ev.z_lk, Ev.z_rc, Ev.z_rn, Ev.z_rk, Ev.z_sn, Ev.z_sa, Ev.z_dk]
   refine ⟨{ Ev.zero 9 with a := x0 }, [], [], ?_, rfl, hF, ?_, { Rg_zero 9 with a := hu0 }, rfl, rfl, by decide, ?_, Or.inr (Or.inr ⟨by simp [ownL, ownOf], rfl, rfl, rfl, rfl, rfl, rfl⟩)⟩
   · simp [putL, putC, Ev.cells, Ev.zero]
   · unfold Ev.err
     rw [if_neg (by rw [hF]; simp), show kindT (Ev.k { Ev.zero 9 with a := x0 }) = [.int 1] from rfl]
     simp [ersL, er1]
   · rw [hK]
     simp [wdCs, wdC, wd1, valI, Ev.cells, sub]
 · have hK : kindT 10 = [.int 1, .look 22] := rfl
   rw [hK] at hC hv ⊢
   simp only [List.flatMap_cons, List.flatMap_nil, sub, lookL, List.cons_append, List.nil_append, List.append_nil, List.length_cons, List.length_nil] at hC hv ⊢
   obtain ⟨v0, vs0, rfl, hv0⟩ := vs_cons hv
   obtain ⟨v1, vs1, rfl, hv1⟩ := vs_cons hv0
   obtain ⟨v2, vs2, rfl, hv2⟩ := vs_cons hv1
   obtain ⟨v3, vs3, rfl, hv3⟩ := vs_cons hv2
   obtain ⟨v4, vs4, rfl, hv4⟩ := vs_cons hv3
   obtain ⟨v5, vs5, rfl, hv5⟩ := vs_cons hv4
   obtain ⟨v6, vs6, rfl, hv6⟩ := vs_cons hv5
   obtain ⟨v7, vs7, rfl, hv7⟩ := vs_cons hv6
   obtain ⟨v8, vs8, rfl, hv8⟩ := vs_cons hv7
   have hnil : vs8 = [] := len_nil hv8
   subst hnil
   obtain ⟨c0, q0, rfl, hc0, hC0⟩ := hC.cons
   obtain ⟨x0, rfl, hl0, hu0⟩ := hc0.int
   obtain ⟨c1, q1, rfl, hc1, hC1⟩ := hC0.cons
   obtain ⟨x1, rfl, hl1, hu1⟩ := hc1.int
   obtain ⟨c2, q2, rfl, hc2, hC2⟩ := hC1.cons
   obtain ⟨x2, rfl, hl2, hu2⟩ := hc2.sta
   obtain ⟨c3, q3, rfl, hc3, hC3⟩ := hC2.cons
   obtain ⟨x3, rfl, hl3, hu3⟩ := hc3.int
   obtain ⟨c4, q4, rfl, hc4, hC4⟩ := hC3.cons
   obtain ⟨x4, rfl, hl4, hu4⟩ := hc4.int
   obtain ⟨c5, q5, rfl, hc5, hC5⟩ := hC4.cons
   obtain ⟨x5, rfl, hl5, hu5⟩ := hc5.int
   obtain ⟨c6, q6, rfl, hc6, hC6⟩ := hC5.cons
   obtain ⟨x6, rfl, hl6, hu6⟩ := hc6.int
   obtain ⟨c7, q7, rfl, hc7, hC7⟩ := hC6.cons
   obtain ⟨x7, rfl, hl7, hu7⟩ := hc7.int
   obtain ⟨c8, q8, rfl, hc8, hC8⟩ := hC7.cons
   obtain ⟨x8, rfl, hl8, hu8⟩ := hc8.int
   have hq : q8 = [] := hC8.nil
   subst hq
   have hF : Ev.inForm { Ev.zero 10 with a := x0, l0 := x1, l1 := x2, l2 := x3, l3 := x4, l4 := x5, l5 := x6, l6 := x7, l7 := x8 } = true := by
     unfold Ev.inForm
     rw [if_neg (by simp [Ev.zero])]
     refine dec_all ?_ ?_
     · rw [show kindT (Ev.k { Ev.zero 10 with a := x0, l0 := x1, l1 := x2, l2 := x3, l3 := x4, l4 := x5, l5 := x6, l6 := x7, l7 := x8 }) = [.int 1, .look 22] from rfl]
       simp [okL, okT, okF, ok1, sub, lookL, clr, clrF, clr1, valI, Ev.cells, hl0, hl1, hl2, hl3, hl4, hl5, hl6, hl7, hl8, hu2]
     · simp [Ev.left, Ev.zero, Ev.empty, Ev.z_a, Ev.z_nb, Ev.z_nm, Ev.z_wh, Ev.z_cd, Ev.z_fr, Ev.z_op, Ev.z_en, Ev.z_lk, Ev.z_rc, Ev.z_rn, Ev.z_rk, Ev.z_sn, Ev.z_sa, Ev.z_dk]
   refine ⟨{ Ev.zero 10 with a := x0, l0 := x1, l1 := x2, l2 := x3, l3 := x4, l4 := x5, l5 := x6, l6 := x7, l7 := x8 }, [], [], ?_, rfl, hF, ?_, { Rg_zero 10 with a := hu0, l0 := hu1, l2 := hu3, l3 := hu4, l4 := hu5, l5 := hu6, l6 := hu7, l7 := hu8 }, rfl, rfl, by decide, ?_, Or.inr (Or.inr ⟨by simp [ownL, ownOf], rfl, rfl, rfl, rfl, rfl, rfl⟩)⟩
   · simp [putL, putC, Ev.cells, Ev.zero]
   · unfold Ev.err
     rw [if_neg (by rw [hF]; simp), show kindT (Ev.k { Ev.zero 10 with a := x0, l0 := x1, l1 := x2, l2 := x3, l3 := x4, l4 := x5, l5 := x6, l6 := x7, l7 := x8 }) = [.int 1, .look 22] from rfl]
     simp [ersL, er1]
   · rw [hK]
     simp [wdCs, wdC, wd1, valI, Ev.cells, sub, lookL]
 · have hK : kindT 11 = [.int 1, .sht 30] := rfl
   rw [hK] at hC hv ⊢
   simp only [List.flatMap_cons, List.flatMap_nil, sub, shtL, List.cons_append, List.nil_append, List.append_nil, List.length_cons, List.length_nil] at hC hv ⊢
   obtain ⟨v0, vs0, rfl, hv0⟩ := vs_cons hv
   obtain ⟨v1, vs1, rfl, hv1⟩ := vs_cons hv0
   obtain ⟨v2, vs2, rfl, hv2⟩ := vs_cons hv1
   obtain ⟨v3, vs3, rfl, hv3⟩ := vs_cons hv2
   have hnil : vs3 = [] := len_nil hv3
   subst hnil
   obtain ⟨c0, q0, rfl, hc0, hC0⟩ := hC.cons
   obtain ⟨x0, rfl, hl0, hu0⟩ := hc0.int
   obtain ⟨c1, q1, rfl, hc1, hC1⟩ := hC0.cons
   obtain ⟨x1, rfl, hl1, hu1⟩ := hc1.int
   obtain ⟨c2, q2, rfl, hc2, hC2⟩ := hC1.cons
   obtain ⟨x2, rfl, hl2, hu2⟩ := hc2.int
   obtain ⟨c3, q3, rfl, hc3, hC3⟩ := hC2.cons
   obtain ⟨x3, rfl, hu3⟩ := hc3.dat
   have hq : q3 = [] := hC3.nil
   subst hq
   obtain ⟨sa, sc, hs⟩ : ∃ a c, v3 = .slice a x3.length c := by simpa [SlL, SlOf] using hS
   subst hs
   have hF : Ev.inForm { Ev.zero 11 with a := x0, sn := x1, sa := x2, dia := sa, dik := x3.length, dic := sc } = true := by
     unfold Ev.inForm
     rw [if_neg (by simp [Ev.zero])]
     refine dec_all ?_ ?_
     · rw [show kindT (Ev.k { Ev.zero 11 with a := x0, sn := x1, sa := x2, dia := sa, dik := x3.length, dic := sc }) = [.int 1, .sht 30] from rfl]
       simp [okL, okT, okF, ok1, sub, shtL, clr, clrF, clr1, valI, lenS, Ev.cells, hl0, hl1, hl2, hu3]
     · simp [Ev.left, Ev.zero, Ev.empty, Ev.z_a, Ev.z_nb, Ev.z_nm, Ev.z_wh, Ev.z_cd, Ev.z_fr, Ev.z_op, Ev.z_en, Ev.z_lk, Ev.z_rc, Ev.z_rn, Ev.z_rk, Ev.z_sn, Ev.z_sa, Ev.z_dk]
   refine ⟨{ Ev.zero 11 with a := x0, sn := x1, sa := x2, dia := sa, dik := x3.length, dic := sc }, [], x3, ?_, rfl, hF, ?_, { Rg_zero 11 with a := hu0, sn := hu1, sa := hu2 }, rfl, rfl, by decide, ?_, Or.inr (Or.inl ⟨by simp [ownL, ownOf], rfl, rfl, rfl⟩)⟩
   · simp [putL, putC, Ev.cells, Ev.zero]
   · unfold Ev.err
     rw [if_neg (by rw [hF]; simp), show kindT (Ev.k { Ev.zero 11 with a := x0, sn := x1, sa := x2, dia := sa, dik := x3.length, dic := sc }) = [.int 1, .sht 30] from rfl]
     simp [ersL, er1]
   · rw [hK]
     simp [wdCs, wdC, wd1, valI, Ev.cells, sub, shtL]
set_option linter.unusedVariables false
set_option maxRecDepth 100000
def St.wl : St → Nat
 | .bare w => w.length
 | .quote _ w => w.length
 | .esc _ w _ => w.length
 | .high _ w _ => w.length
 | .low _ w _ _ => w.length
 | _ => 0
theorem ws_snoc {ws : Ws} {w : List UInt8} {n : Nat} (h : ∀ y ∈ ws, y.length ≤ n) (hw : w.length ≤ n) : ∀ y ∈ ws ++ [w], y.length ≤ n := by
 intro y hy
 rcases List.mem_append.1 hy with hy | hy
 · exact h y hy
 · have : y = w := by simpa using hy
   subst this
   exact hw
theorem step_wl {s s' : St} {ws ws' : Ws} {k : Nat} {b : UInt8} (hs : s.wl ≤ k) (hw : ∀ y ∈ ws, y.length ≤ k) (h : stepW s ws k b = .go s' ws') : s'.wl ≤ k + 1 ∧ ∀ y ∈ ws', y.length ≤ k + 1 := by
 have hw1 : ∀ y ∈ ws, y.length ≤ k + 1 := fun y hy => Nat.le_succ_of_le (hw y hy)
 cases s
 all_goals
   simp only [stepW] at h
   simp only [St.wl] at hs
   repeat' split at h
 all_goals first
   | (cases h; done)
   | (simp only [Out.go.injEq] at h
      obtain ⟨rfl, rfl⟩ := h
      refine ⟨by simp only [St.wl, List.length_append, List.length_cons, List.length_nil]; omega, ?_⟩
      first
      | exact hw1
      | exact ws_snoc hw1 (by omega))
theorem fin_wl {s : St} {ws : Ws} {k : Nat} (hs : s.wl ≤ k) (hw : ∀ y ∈ ws, y.length ≤ k) : ∀ y ∈ (finW s ws k).ws, y.length ≤ k := by
 cases s <;> simp only [finW, Ans.ws]
 all_goals first
   | exact hw
   | exact ws_snoc hw hs
   | simp
theorem run_wl : ∀ {t : List UInt8} {s : St} {ws : Ws} {k : Nat}, s.wl ≤ k → (∀ y ∈ ws, y.length ≤ k) → ∀ y ∈ (runW s ws k t).ws, y.length ≤ k + t.length
 | [], s, ws, k, hs, hw => fin_wl hs hw
 | b :: t, s, ws, k, hs, hw => by
   rw [runW]
   cases h : stepW s ws k b with
   | bad j => simp [Ans.ws]
   | go s' ws' =>
     obtain ⟨h1, h2⟩ := step_wl hs hw h
     intro y hy
     have := run_wl (t := t) h1 h2 y hy
     simp only [List.length_cons]
     omega
theorem split_wl {l : List UInt8} : ∀ y ∈ (splitW l).ws, y.length ≤ 8192 := by
 unfold splitW
 split
 · simp [Ans.ws]
 · intro y hy
   have := run_wl (k := 0) (by simp [St.wl]) (by simp) y hy
   omega
theorem split_join {ws : Ws} (h : szW ws ≤ 8192) : splitW (joinW ws) = .ok ws := by
 unfold splitW
 rw [if_neg (by have := joinW_le ws; omega), run_join]
theorem wdT_len (C : List Value) (items : Ws) (data : List UInt8) : ∀ t : Th, (wdT C items data t).length ≤ 100
 | .look o => by simp [wdT, lookL, wd1]
 | .sht o => by simp [wdT, shtL, wd1]
 | .int o => by simp [wdT, wd1]
 | .cod o => by simp [wdT, wd1]
 | .fre o => by simp [wdT, wd1]
 | .sta o => by simp [wdT, wd1]
 | .dat o => by simp [wdT, wd1]
 | .op o => Nat.le_trans (opA_len _ _ _ _ _) (by decide)
 | .res o => Nat.le_trans (resA_len _ _ _) (by decide)
theorem kd_len (k : Nat) : (kdN.getD k []).length ≤ 10 := by
 by_cases h : k < 12
 · have key : ∀ a : Fin 12, (kdN.getD a.val []).length ≤ 10 := by decide
   exact key ⟨k, h⟩
 · rw [List.getD, List.getElem?_eq_none (by simp [kdN]; omega)]
   simp
theorem sz_words {e : Ev} {items : Ws} {data : List UInt8} (hF : e.inForm = true) (hX : ersL (er1 e.cells items) (kindT e.k) = 0) (hR : e.Rg) (hd : data.length = e.dik) : szW (e.words items data) ≤ 8000 := by
 have h1 := szL (fit_of hF hX hR hd)
 have h2 := bdL e.k
 have h3 := wrtW_le (kdN.getD e.k.toNat [])
 have h4 := kd_len e.k.toNat
 rw [words_sub]
 simp only [szW, List.map_cons, List.sum_cons] at h1 ⊢
 omega
theorem err_zero {e : Ev} {items : Ws} (h : e.err items = 0) : e.inForm = true ∧ ersL (er1 e.cells items) (kindT e.k) = 0 := by
 unfold Ev.err at h
 split at h
 · simp at h
 · rename_i h1
   exact ⟨by simpa using h1, h⟩
theorem re_back {e : Ev} {items : Ws} {data : List UInt8} (h : e.err items = 0) (hR : e.Rg) (hd : data.length = e.dik) :
   rlErr (e.line items data) = 0 ∧ (e.line items data).length ≤ 8192 ∧ (splitW (e.line items data)).ws = kdN.getD e.k.toNat [] :: ((kindT e.k).flatMap sub).flatMap (wd1 e.cells items data) ∧ evW (kdN.getD e.k.toNat []) = some e.k.toNat ∧ ((e.k.toNat : Nat) : Int) = e.k
   ∧ (rdsL ((kindT e.k).flatMap sub) (((kindT e.k).flatMap sub).flatMap (wd1 e.cells items data))).2.2 = ((kindT e.k).flatMap sub).map (ct1 e.cells items data) := by
 obtain ⟨hF, hX⟩ := err_zero h
 have hk := inForm_k hF
 have hs := sz_words hF hX hR hd
 have hl : e.line items data = joinW (e.words items data) := by unfold Ev.line; rw [if_neg (by simp [h])]
 have hsp := split_join (ws := e.words items data) (by omega)
 have hkk : ((e.k.toNat : Nat) : Int) = e.k := Int.toNat_of_nonneg (by omega)
 have hrd := rdsL_back (b := []) (fit_of hF hX hR hd)
 rw [List.append_nil] at hrd
 have hev := ev_back hk.1 hk.2
 rw [hl, hsp]
 refine ⟨?_, by have := joinW_le (e.words items data); omega, by rw [words_sub]; rfl, hev, hkk, by rw [hrd]⟩
 have h1 : rlErr (joinW (e.words items data)) = reErr (e.words items data) := by
   unfold rlErr
   rw [if_neg (by rw [hsp]; simp [Ans.err]), hsp]
   rfl
 rw [h1, words_sub]
 simp only [reErr, hev, hkk, hrd]
 simp
theorem lenJ_szW {ws : Ws} {n : Nat} (h : ∀ x ∈ ws, x.length ≤ n) : lenJ ws ≤ ws.length * (4 * n + 16) := by
 induction ws with
 | nil => simp [lenJ]
 | cons x r ih =>
   have h1 := ih (fun y hy => h y (List.mem_cons_of_mem _ hy))
   have h3 := h x (List.mem_cons_self)
   simp only [lenJ, List.map_cons, List.sum_cons, List.length_cons] at h1 ⊢
   rw [Nat.add_mul]
   omega
theorem wd1_w {C : List Value} {items : Ws} {data : List UInt8} {t : Th} (h : Fit C items data t) : ∀ x ∈ wd1 C items data t, x.length ≤ 5000 := by
 intro x hx
 cases t with
 | int o =>
   have := itoa_len h.1 h.2
   simp only [wd1, List.mem_cons, List.not_mem_nil, or_false] at hx
   subst hx
   omega
 | cod o =>
   have := itoa_len h.1 h.2
   simp only [wd1, List.mem_cons, List.not_mem_nil, or_false] at hx
   subst hx
   omega
 | sta o =>
   have hk : ∀ k : Int, 1 ≤ k → k ≤ 3 → (stN.getD k.toNat []).length ≤ 10 := fun k h1 h3 => by
     obtain rfl | rfl | rfl : k = 1 ∨ k = 2 ∨ k = 3 := by omega
     all_goals decide
   have := hk _ h.1 h.2
   simp only [wd1, List.mem_cons, List.not_mem_nil, or_false] at hx
   subst hx
   omega
 | fre o =>
   simp only [wd1, List.mem_cons, List.not_mem_nil, or_false] at hx
   subst hx
   cases boolV C o <;> decide
 | dat o =>
   have h' : data.length ≤ 2304 := h
   simp only [wd1, List.mem_cons, List.not_mem_nil, or_false] at hx
   subst hx
   rw [hexW_len]
   omega
 | op o => exact Nat.le_trans (opA_w64 hx) (by decide)
 | res o => exact Nat.le_trans (resA_w64 hx) (by decide)
 | look o => exact absurd h (by simp [Fit])
 | sht o => exact absurd h (by simp [Fit])
theorem wdF_len (C : List Value) (items : Ws) (data : List UInt8) (l : List Th) (hl : l.length ≤ 100) : (l.flatMap (wdT C items data)).length ≤ 10000 := by
 have h : ∀ l : List Th, (l.flatMap (wdT C items data)).length ≤ 100 * l.length := by
   intro l
   induction l with
   | nil => simp
   | cons t r ih =>
     have := wdT_len C items data t
     simp only [List.flatMap_cons, List.length_append, List.length_cons]
     omega
 have := h l
 omega
theorem lenJ_words {e : Ev} {items : Ws} {data : List UInt8} (h : e.err items = 0) (hR : e.Rg) (hd : data.length = e.dik) : lenJ (e.words items data) ≤ 100000000000000 := by
 obtain ⟨hF, hX⟩ := err_zero h
 have hx : ∀ x ∈ e.words items data, x.length ≤ 5000 := by
   intro x hx
   rw [words_sub] at hx
   rcases List.mem_cons.1 hx with rfl | hx
   · have := kd_len e.k.toNat
     omega
   · obtain ⟨t, ht, hxt⟩ := List.mem_flatMap.1 hx
     exact wd1_w (fit_of hF hX hR hd t ht) x hxt
 have h1 := lenJ_szW hx
 have h2 : (e.words items data).length ≤ 10001 := by
   have : (kindT e.k).length ≤ 100 := by
     unfold kindT
     repeat' split
     all_goals decide
   have := wdF_len e.cells items data (kindT e.k) this
   simp only [Ev.words, List.length_cons]
   omega
 have h3 := Nat.mul_le_mul_right (4 * 5000 + 16) h2
 omega
set_option linter.unusedVariables false
set_option maxRecDepth 100000
set_option maxHeartbeats 3200000
theorem rl_zero {l : List UInt8} (h : rlErr l = 0) : (splitW l).err = 0 ∧ reErr (splitW l).ws = 0 := by
 unfold rlErr at h
 split at h
 · rename_i h1
   exact absurd h (by omega)
 · rename_i h1
   exact ⟨by simpa using h1, h⟩
theorem re_zero {x : List UInt8} {r : Ws} {k : Nat} (h : reErr (x :: r) = 0) (hx : evW x = some k) : (rdsL ((kindT (k : Int)).flatMap sub) r).1 = 0 ∧ r.length ≤ (rdsL ((kindT (k : Int)).flatMap sub) r).2.1 := by
 simp only [reErr, hx] at h
 split at h
 · rename_i h1
   exact absurd h h1
 · rename_i h1
   split at h
   · simp at h
   · exact ⟨by simpa using h1, by omega⟩
theorem tp_of {e : Ev} {items : Ws} {data : List UInt8} {cs : List Comp} (hF : e.inForm = true) (hR : e.Rg) (hd : data.length = e.dik) (hil : items.length ≤ 140737488355328) (hI : ∀ W, All cs W → Rt W (.slice e.ria e.rik e.ric) items) (hD : ∀ W, All cs W → BRd W (.slice e.dia e.dik e.dic) data) : ∀ t ∈ kindT e.k, TpWT e.cells items data cs t := by
 have hk := inForm_k hF
 have hO := (left_empty hF).1
 obtain hk | hk | hk | hk | hk | hk | hk | hk | hk | hk | hk : e.k = 1 ∨ e.k = 2 ∨ e.k = 3 ∨ e.k = 4 ∨ e.k = 5 ∨ e.k = 6 ∨ e.k = 7 ∨ e.k = 8 ∨ e.k = 9 ∨ e.k = 10 ∨ e.k = 11 := by omega
 · have hK : kindT e.k = [.int 1, .cod 5] := by rw [hk]; rfl
   rw [hK] at hO ⊢
   simp [okL, okT, okF, ok1, sub, clr, clrF, clr1, valI, Ev.cells] at hO
   intro t ht
   simp only [List.mem_cons, List.not_mem_nil, or_false] at ht
   rcases ht with rfl | rfl
   · exact ⟨e.a, rfl, by omega, hR.a⟩
   · exact ⟨e.cd, rfl, by omega, hR.cd⟩
 · have hK : kindT e.k = [.int 1, .int 2, .op 7] := by rw [hk]; rfl
   rw [hK] at hO ⊢
   simp [okL, okT, okF, ok1, sub, clr, clrF, clr1, valI, Ev.cells] at hO
   intro t ht
   simp only [List.mem_cons, List.not_mem_nil, or_false] at ht
   rcases ht with rfl | rfl | rfl
   · exact ⟨e.a, rfl, by omega, hR.a⟩
   · exact ⟨e.nb, rfl, by omega, hR.nb⟩
   · exact ⟨_, _, _, _, _, rfl, rfl, rfl, rfl, rfl⟩
 · have hK : kindT e.k = [.int 1, .int 2, .int 4, .op 7] := by rw [hk]; rfl
   rw [hK] at hO ⊢
   simp [okL, okT, okF, ok1, sub, clr, clrF, clr1, valI, Ev.cells] at hO
   intro t ht
   simp only [List.mem_cons, List.not_mem_nil, or_false] at ht
   rcases ht with rfl | rfl | rfl | rfl
   · exact ⟨e.a, rfl, by omega, hR.a⟩
   · exact ⟨e.nb, rfl, by omega, hR.nb⟩
   · exact ⟨e.wh, rfl, by omega, hR.wh⟩
   · exact ⟨_, _, _, _, _, rfl, rfl, rfl, rfl, rfl⟩
 · have hK : kindT e.k = [.int 1, .int 2, .int 3, .res 19] := by rw [hk]; rfl
   rw [hK] at hO ⊢
   simp [okL, okT, okF, ok1, sub, clr, clrF, clr1, valI, Ev.cells] at hO
   intro t ht
   simp only [List.mem_cons, List.not_mem_nil, or_false] at ht
   rcases ht with rfl | rfl | rfl | rfl
   · exact ⟨e.a, rfl, by omega, hR.a⟩
   · exact ⟨e.nb, rfl, by omega, hR.nb⟩
   · exact ⟨e.nm, rfl, by omega, hR.nm⟩
   · exact ⟨hil, e.rc, e.rn, e.ria, e.rik, e.ric, rfl, rfl, rfl, hI⟩
 · have hK : kindT e.k = [.int 1, .int 2, .int 3, .int 4, .res 19] := by rw [hk]; rfl
   rw [hK] at hO ⊢
   simp [okL, okT, okF, ok1, sub, clr, clrF, clr1, valI, Ev.cells] at hO
   intro t ht
   simp only [List.mem_cons, List.not_mem_nil, or_false] at ht
   rcases ht with rfl | rfl | rfl | rfl | rfl
   · exact ⟨e.a, rfl, by omega, hR.a⟩
   · exact ⟨e.nb, rfl, by omega, hR.nb⟩
   · exact ⟨e.nm, rfl, by omega, hR.nm⟩
   · exact ⟨e.wh, rfl, by omega, hR.wh⟩
   · exact ⟨hil, e.rc, e.rn, e.ria, e.rik, e.ric, rfl, rfl, rfl, hI⟩
 · have hK : kindT e.k = [.int 1, .int 3, .fre 6, .int 12, .int 13, .op 14, .res 19] := by rw [hk]; rfl
   rw [hK] at hO ⊢
   simp [okL, okT, okF, ok1, sub, clr, clrF, clr1, valI, Ev.cells] at hO
   intro t ht
   simp only [List.mem_cons, List.not_mem_nil, or_false] at ht
   rcases ht with rfl | rfl | rfl | rfl | rfl | rfl | rfl
   · exact ⟨e.a, rfl, by omega, hR.a⟩
   · exact ⟨e.nm, rfl, by omega, hR.nm⟩
   · exact ⟨e.fr, rfl⟩
   · exact ⟨e.ec, rfl, by omega, hR.ec⟩
   · exact ⟨e.en, rfl, by omega, hR.en⟩
   · exact ⟨_, _, _, _, _, rfl, rfl, rfl, rfl, rfl⟩
   · exact ⟨hil, e.rc, e.rn, e.ria, e.rik, e.ric, rfl, rfl, rfl, hI⟩
 · have hK : kindT e.k = [.int 1, .look 22] := by rw [hk]; rfl
   rw [hK] at hO ⊢
   simp [okL, okT, okF, ok1, sub, lookL, clr, clrF, clr1, valI, Ev.cells] at hO
   intro t ht
   simp only [List.mem_cons, List.not_mem_nil, or_false] at ht
   rcases ht with rfl | rfl
   · exact ⟨e.a, rfl, by omega, hR.a⟩
   · intro x hx
     simp only [lookL, List.mem_cons, List.not_mem_nil, or_false] at hx
     rcases hx with rfl | rfl | rfl | rfl | rfl | rfl | rfl | rfl
     · exact ⟨e.l0, rfl, by omega, hR.l0⟩
     · exact ⟨e.l1.toNat, by rw [Int.toNat_of_nonneg (by omega)]; rfl, by omega⟩
     · exact ⟨e.l2, rfl, by omega, hR.l2⟩
     · exact ⟨e.l3, rfl, by omega, hR.l3⟩
     · exact ⟨e.l4, rfl, by omega, hR.l4⟩
     · exact ⟨e.l5, rfl, by omega, hR.l5⟩
     · exact ⟨e.l6, rfl, by omega, hR.l6⟩
     · exact ⟨e.l7, rfl, by omega, hR.l7⟩
 · have hK : kindT e.k = [.int 1] := by rw [hk]; rfl
   rw [hK] at hO ⊢
   simp [okL, okT, okF, ok1, sub, valI, Ev.cells] at hO
   intro t ht
   simp only [List.mem_cons, List.not_mem_nil, or_false] at ht
   subst ht
   · exact ⟨e.a, rfl, by omega, hR.a⟩
 · have hK : kindT e.k = [.int 1] := by rw [hk]; rfl
   rw [hK] at hO ⊢
   simp [okL, okT, okF, ok1, sub, valI, Ev.cells] at hO
   intro t ht
   simp only [List.mem_cons, List.not_mem_nil, or_false] at ht
   subst ht
   · exact ⟨e.a, rfl, by omega, hR.a⟩
 · have hK : kindT e.k = [.int 1, .look 22] := by rw [hk]; rfl
   rw [hK] at hO ⊢
   simp [okL, okT, okF, ok1, sub, lookL, clr, clrF, clr1, valI, Ev.cells] at hO
   intro t ht
   simp only [List.mem_cons, List.not_mem_nil, or_false] at ht
   rcases ht with rfl | rfl
   · exact ⟨e.a, rfl, by omega, hR.a⟩
   · intro x hx
     simp only [lookL, List.mem_cons, List.not_mem_nil, or_false] at hx
     rcases hx with rfl | rfl | rfl | rfl | rfl | rfl | rfl | rfl
     · exact ⟨e.l0, rfl, by omega, hR.l0⟩
     · exact ⟨e.l1.toNat, by rw [Int.toNat_of_nonneg (by omega)]; rfl, by omega⟩
     · exact ⟨e.l2, rfl, by omega, hR.l2⟩
     · exact ⟨e.l3, rfl, by omega, hR.l3⟩
     · exact ⟨e.l4, rfl, by omega, hR.l4⟩
     · exact ⟨e.l5, rfl, by omega, hR.l5⟩
     · exact ⟨e.l6, rfl, by omega, hR.l6⟩
     · exact ⟨e.l7, rfl, by omega, hR.l7⟩
 · have hK : kindT e.k = [.int 1, .sht 30] := by rw [hk]; rfl
   rw [hK] at hO ⊢
   simp [okL, okT, okF, ok1, sub, shtL, clr, clrF, clr1, valI, lenS, Ev.cells] at hO
   intro t ht
   simp only [List.mem_cons, List.not_mem_nil, or_false] at ht
   rcases ht with rfl | rfl
   · exact ⟨e.a, rfl, by omega, hR.a⟩
   · intro x hx
     simp only [shtL, List.mem_cons, List.not_mem_nil, or_false] at hx
     rcases hx with rfl | rfl | rfl
     · exact ⟨e.sn, rfl, by omega, hR.sn⟩
     · exact ⟨e.sa, rfl, by omega, hR.sa⟩
     · exact ⟨by omega, e.dia, e.dik, e.dic, rfl, hD⟩
end Go.Proofs.YtfeppannfcbakaaGreatDoor

import Derived.Test.YtfeppannfcbakaaGreatDoorEv10
namespace Go.Proofs.YtfeppannfcbakaaGreatDoor
open Go.RowKit
set_option linter.unusedVariables false
set_option maxRecDepth 100000

/-- What is read: its content. -/
inductive Ct where
  | none | int (v : Int) | bool (b : Bool) | dat (d : List UInt8) | op (x : OpR) | res (c n : Int) (l : Ws)
/-- A thing read from words: the error, how many words, the content. -/
def rd1 (t : Th) (l : Ws) : Int × Nat × Ct := match t with
  | .op _ => ((readO l).e, (readO l).k, .op (readO l).o)
  | .res _ => ((readR l).e, (readR l).k, .res (readR l).c (readR l).n (readR l).items)
  | .int _ => match l with
    | [] => (190, 0, .none)
    | x :: _ => (if (numW x).isSome then 0 else 190, 1, .int (((numW x).getD 0 : Nat) : Int))
  | .cod _ => match l with
    | [] => (190, 0, .none)
    | x :: _ => (if (numW x).isSome then 0 else 190, 1, .int (((numW x).getD 0 : Nat) : Int))
  | .sta _ => match l with
    | [] => (190, 0, .none)
    | x :: _ => (if (stW x).isSome then 0 else 190, 1, .int (((stW x).getD 0 : Nat) : Int))
  | .fre _ => match l with
    | [] => (190, 0, .none)
    | x :: _ => (if decide (x = [102, 114, 101, 115, 104]) || decide (x = [111, 108, 100]) then 0 else 190, 1, .bool (decide (x = [102, 114, 101, 115, 104])))
  | .dat _ => match l with
    | [] => (190, 0, .none)
    | x :: _ => (if (datR x).isSome then 0 else 190, 1, .dat ((datR x).getD []))
  | _ => (0, 0, .none)
/-- A content written into an event's cells; a list stands as a value. -/
def putC (C : List Value) (t : Th) (x : Ct) (v : Value) : List Value := match t, x with
  | .int o, .int a => C.set o (.int .i64 a)
  | .cod o, .int a => C.set o (.int .i64 a)
  | .sta o, .int a => C.set o (.int .i64 a)
  | .fre o, .bool b => C.set o (.bool b)
  | .dat o, .dat _ => C.set o v
  | .op o, .op x => setOp C o x
  | .res o, .res c n _ => setRes C o c n v
  | _, _ => C
/-- What a content owns. -/
def ownOf (x : Ct) (v : Value) : List Comp := match x with
  | .dat d => [ownC 5 v (cellsB d)]
  | .res _ _ l => [ownC 9 v (txW l)]
  | _ => []
def offT : Th → Nat
  | .int o => o | .cod o => o | .fre o => o | .sta o => o | .dat o => o | .op o => o + 4 | .res o => o + 2 | .look o => o + 7 | .sht o => o + 2
/-- What reading a thing does. -/
def TRPost (R P : Nat) (w0 : World) (C : List Value) (t : Th) (l : Ws) (cs : List Comp) (e : Ending) (w' : World) : Prop :=
  e = .returned (.int .i64 (rd1 t l).1) ∧ ∃ s' v, Rt w0 s' (l.drop (rd1 t l).2.1) ∧ All (blkC R [s'] 124 :: blkC P (putC C t (rd1 t l).2.2 v) 36 :: (ownOf (rd1 t l).2.2 v ++ cs)) w'
set_option maxHeartbeats 3200000 in
set_option maxRecDepth 1000000 in
theorem thing_flat {R P : Nat} {t : Th} {s : Value} {l : Ws} {C : List Value} {cs : List Comp} {w w0 : World} (hf : flatT t = true) (hE : ∀ W, All cs W → En W) (h0 : Rt w0 s l) (hi : inC w0 ∈ cs) (hl : l.length * 16 ≤ 140737488355328) (hs : ∀ x ∈ l, x.length ≤ 140737488355328) (ho : offT t < C.length) (A : All (blkC R [s] 124 :: blkC P C 36 :: cs) w) :
    Calls Tryz.prog 106 #[.pointer (some ⟨R, 0, none⟩), thV P t] w (TRPost R P w0 C t l cs) := by
  cases t with
  | op o =>
    have CO := hid (rop_any (o := o) hE h0 hi (by omega) hs (by simp only [offT] at ho; omega) A)
    clear A hE h0 hi hl hs ho
    simp only [thV]
    unfold TRPost
    simp only [rd1, putC, ownOf, List.nil_append]
    generalize readO l = r at *
    generalize setOp C o r.o = C2 at *
    have ta0 : ∀ W : World, (Instr.typeAssert (.iface 99 (.pointer (some ⟨P, o, none⟩))) 20 99 true).run Tryz.prog W = .ok (.tuple #[.pointer (some ⟨P, o, none⟩), .bool true]) W := fun W => by kernel_rfl
    go_enter Tryz.func106, Tryz.ntmps106
    go_wp2_with (go_at_call 131; refine CO.out.mono ?_; rintro e w1 ⟨rfl, s1, R1, A1⟩; have K1 := hid A1; have RR1 := hid R1; clear A1 R1)
    go_ret
    first | exact ⟨rfl, _, RR1.out, K1.out⟩ | exact ⟨rfl, _, .bool false, RR1.out, K1.out⟩
  | res o =>
    have CO := hid (rres_any (o := o) hE h0 hi hl hs (by simp only [offT] at ho; omega) A)
    clear A hE h0 hi hl hs ho
    simp only [thV]
    unfold TRPost
    simp only [rd1, putC, ownOf, List.cons_append, List.nil_append]
    generalize readR l = r at *
    have ta0 : ∀ W : World, (Instr.typeAssert (.iface 100 (.pointer (some ⟨P, o, none⟩))) 20 99 true).run Tryz.prog W = .ok (.tuple #[.pointer none, .bool false]) W := fun W => by kernel_rfl
    have ta1 : ∀ W : World, (Instr.typeAssert (.iface 100 (.pointer (some ⟨P, o, none⟩))) 20 100 true).run Tryz.prog W = .ok (.tuple #[.pointer (some ⟨P, o, none⟩), .bool true]) W := fun W => by kernel_rfl
    go_enter Tryz.func106, Tryz.ntmps106
    go_wp2_with (go_at_call 132; refine CO.out.mono ?_; rintro e w1 ⟨rfl, s1, v1, R1, A1⟩; have K1 := hid A1; have RR1 := hid R1; clear A1 R1)
    go_ret
    first | exact ⟨rfl, _, RR1.out, _, K1.out⟩ | exact ⟨rfl, _, _, RR1.out, K1.out⟩
  | look o => exact absurd hf (by simp [flatT])
  | sht o => exact absurd hf (by simp [flatT])
  | int o =>
    cases l with
    | nil =>
      obtain ⟨ao, c, rfl⟩ := h0.form
      have CN := hid (next_nil (R := R) (ao := ao) (c := c) A)
      have HA := hid A
      have R0 := hid h0
      clear A hE h0 hi hl hs ho
      simp only [thV]
      unfold TRPost
      simp only [rd1, putC, ownOf, List.nil_append, List.drop_nil]
      have ta0 : ∀ W : World, (Instr.typeAssert (.iface 97 (.pointer (some ⟨P, o, none⟩))) 20 99 true).run Tryz.prog W = .ok (.tuple #[.pointer none, .bool false]) W := fun W => by kernel_rfl
      have ta1 : ∀ W : World, (Instr.typeAssert (.iface 97 (.pointer (some ⟨P, o, none⟩))) 20 100 true).run Tryz.prog W = .ok (.tuple #[.pointer none, .bool false]) W := fun W => by kernel_rfl
      have ta2 : ∀ W : World, (Instr.typeAssert (.iface 97 (.pointer (some ⟨P, o, none⟩))) 20 102 true).run Tryz.prog W = .ok (.tuple #[.pointer none, .bool false]) W := fun W => by kernel_rfl
      have ta3 : ∀ W : World, (Instr.typeAssert (.iface 97 (.pointer (some ⟨P, o, none⟩))) 20 103 true).run Tryz.prog W = .ok (.tuple #[.pointer none, .bool false]) W := fun W => by kernel_rfl
      go_enter Tryz.func106, Tryz.ntmps106
      go_wp2_with (go_at_call 71; refine CN.out.mono ?_; rintro e w1 ⟨rfl, h1⟩; subst w1)
      go_ret
      first | exact ⟨rfl, _, R0.out, HA.out⟩ | exact ⟨rfl, _, .bool false, R0.out, HA.out⟩
    | cons x r =>
      have hx := hs x (by simp)
      have CN := hid (next_cons A (h0.later (A.into (List.mem_cons_of_mem _ (List.mem_cons_of_mem _ hi)))) (by simp only [List.length_cons] at hl; omega))
      obtain ⟨z, hz⟩ : ∃ z, C[o]? = some z := ⟨_, List.getElem?_eq_getElem ho⟩
      have CW : Hid (∀ s' W, All (blkC R [s'] 124 :: blkC P C 36 :: cs) W → Calls Tryz.prog 133 #[thV P (.int o), .string ⟨x.toArray⟩] W (RWPost P o C ((numW x).isSome) (.int .i64 (((numW x).getD 0 : Nat) : Int)) (blkC R [s'] 124 :: cs))) := hid (fun s' W hW => rw_int (hE _ hW.tail.tail) hz hx hW.swap)
      have R0 := hid h0
      clear A hE hi hl hs ho hz h0 hx
      simp only [thV] at CW ⊢
      unfold TRPost
      simp only [rd1, putC, ownOf, List.nil_append, List.drop_succ_cons, List.drop_zero]
      unfold RWPost at CW
      generalize ByteArray.mk x.toArray = X at *
      generalize (numW x).isSome = B at *
      have ta0 : ∀ W : World, (Instr.typeAssert (.iface 97 (.pointer (some ⟨P, o, none⟩))) 20 99 true).run Tryz.prog W = .ok (.tuple #[.pointer none, .bool false]) W := fun W => by kernel_rfl
      have ta1 : ∀ W : World, (Instr.typeAssert (.iface 97 (.pointer (some ⟨P, o, none⟩))) 20 100 true).run Tryz.prog W = .ok (.tuple #[.pointer none, .bool false]) W := fun W => by kernel_rfl
      have ta2 : ∀ W : World, (Instr.typeAssert (.iface 97 (.pointer (some ⟨P, o, none⟩))) 20 102 true).run Tryz.prog W = .ok (.tuple #[.pointer none, .bool false]) W := fun W => by kernel_rfl
      have ta3 : ∀ W : World, (Instr.typeAssert (.iface 97 (.pointer (some ⟨P, o, none⟩))) 20 103 true).run Tryz.prog W = .ok (.tuple #[.pointer none, .bool false]) W := fun W => by kernel_rfl
      cases B
      all_goals
        go_enter Tryz.func106, Tryz.ntmps106
        go_wp2_with (first | (go_at_call 71; refine CN.out.mono ?_; rintro e w1 ⟨rfl, s1, R1, A1⟩; have K1 := hid A1; have RR1 := hid (R1 _ R0.out); clear A1 R1) | (go_at_call 133; refine (CW.out _ _ K1.out).mono ?_; rintro e w2 ⟨rfl, A2⟩; have K2 := hid A2.swap; clear A2))
        go_ret
        exact ⟨rfl, _, RR1.out, K2.out⟩
  | cod o =>
    cases l with
    | nil =>
      obtain ⟨ao, c, rfl⟩ := h0.form
      have CN := hid (next_nil (R := R) (ao := ao) (c := c) A)
      have HA := hid A
      have R0 := hid h0
      clear A hE h0 hi hl hs ho
      simp only [thV]
      unfold TRPost
      simp only [rd1, putC, ownOf, List.nil_append, List.drop_nil]
      have ta0 : ∀ W : World, (Instr.typeAssert (.iface 98 (.pointer (some ⟨P, o, none⟩))) 20 99 true).run Tryz.prog W = .ok (.tuple #[.pointer none, .bool false]) W := fun W => by kernel_rfl
      have ta1 : ∀ W : World, (Instr.typeAssert (.iface 98 (.pointer (some ⟨P, o, none⟩))) 20 100 true).run Tryz.prog W = .ok (.tuple #[.pointer none, .bool false]) W := fun W => by kernel_rfl
      have ta2 : ∀ W : World, (Instr.typeAssert (.iface 98 (.pointer (some ⟨P, o, none⟩))) 20 102 true).run Tryz.prog W = .ok (.tuple #[.pointer none, .bool false]) W := fun W => by kernel_rfl
      have ta3 : ∀ W : World, (Instr.typeAssert (.iface 98 (.pointer (some ⟨P, o, none⟩))) 20 103 true).run Tryz.prog W = .ok (.tuple #[.pointer none, .bool false]) W := fun W => by kernel_rfl
      go_enter Tryz.func106, Tryz.ntmps106
      go_wp2_with (go_at_call 71; refine CN.out.mono ?_; rintro e w1 ⟨rfl, h1⟩; subst w1)
      go_ret
      first | exact ⟨rfl, _, R0.out, HA.out⟩ | exact ⟨rfl, _, .bool false, R0.out, HA.out⟩
    | cons x r =>
      have hx := hs x (by simp)
      have CN := hid (next_cons A (h0.later (A.into (List.mem_cons_of_mem _ (List.mem_cons_of_mem _ hi)))) (by simp only [List.length_cons] at hl; omega))
      obtain ⟨z, hz⟩ : ∃ z, C[o]? = some z := ⟨_, List.getElem?_eq_getElem ho⟩
      have CW : Hid (∀ s' W, All (blkC R [s'] 124 :: blkC P C 36 :: cs) W → Calls Tryz.prog 133 #[thV P (.cod o), .string ⟨x.toArray⟩] W (RWPost P o C ((numW x).isSome) (.int .i64 (((numW x).getD 0 : Nat) : Int)) (blkC R [s'] 124 :: cs))) := hid (fun s' W hW => rw_cod (hE _ hW.tail.tail) hz hx hW.swap)
      have R0 := hid h0
      clear A hE hi hl hs ho hz h0 hx
      simp only [thV] at CW ⊢
      unfold TRPost
      simp only [rd1, putC, ownOf, List.nil_append, List.drop_succ_cons, List.drop_zero]
      unfold RWPost at CW
      generalize ByteArray.mk x.toArray = X at *
      generalize (numW x).isSome = B at *
      have ta0 : ∀ W : World, (Instr.typeAssert (.iface 98 (.pointer (some ⟨P, o, none⟩))) 20 99 true).run Tryz.prog W = .ok (.tuple #[.pointer none, .bool false]) W := fun W => by kernel_rfl
      have ta1 : ∀ W : World, (Instr.typeAssert (.iface 98 (.pointer (some ⟨P, o, none⟩))) 20 100 true).run Tryz.prog W = .ok (.tuple #[.pointer none, .bool false]) W := fun W => by kernel_rfl
      have ta2 : ∀ W : World, (Instr.typeAssert (.iface 98 (.pointer (some ⟨P, o, none⟩))) 20 102 true).run Tryz.prog W = .ok (.tuple #[.pointer none, .bool false]) W := fun W => by kernel_rfl
      have ta3 : ∀ W : World, (Instr.typeAssert (.iface 98 (.pointer (some ⟨P, o, none⟩))) 20 103 true).run Tryz.prog W = .ok (.tuple #[.pointer none, .bool false]) W := fun W => by kernel_rfl
      cases B
      all_goals
        go_enter Tryz.func106, Tryz.ntmps106
        go_wp2_with (first | (go_at_call 71; refine CN.out.mono ?_; rintro e w1 ⟨rfl, s1, R1, A1⟩; have K1 := hid A1; have RR1 := hid (R1 _ R0.out); clear A1 R1) | (go_at_call 133; refine (CW.out _ _ K1.out).mono ?_; rintro e w2 ⟨rfl, A2⟩; have K2 := hid A2.swap; clear A2))
        go_ret
        exact ⟨rfl, _, RR1.out, K2.out⟩
  | sta o =>
    cases l with
    | nil =>
      obtain ⟨ao, c, rfl⟩ := h0.form
      have CN := hid (next_nil (R := R) (ao := ao) (c := c) A)
      have HA := hid A
      have R0 := hid h0
      clear A hE h0 hi hl hs ho
      simp only [thV]
      unfold TRPost
      simp only [rd1, putC, ownOf, List.nil_append, List.drop_nil]
      have ta0 : ∀ W : World, (Instr.typeAssert (.iface 140 (.agg #[.pointer (some ⟨P, o, none⟩)])) 20 99 true).run Tryz.prog W = .ok (.tuple #[.pointer none, .bool false]) W := fun W => by kernel_rfl
      have ta1 : ∀ W : World, (Instr.typeAssert (.iface 140 (.agg #[.pointer (some ⟨P, o, none⟩)])) 20 100 true).run Tryz.prog W = .ok (.tuple #[.pointer none, .bool false]) W := fun W => by kernel_rfl
      have ta2 : ∀ W : World, (Instr.typeAssert (.iface 140 (.agg #[.pointer (some ⟨P, o, none⟩)])) 20 102 true).run Tryz.prog W = .ok (.tuple #[.pointer none, .bool false]) W := fun W => by kernel_rfl
      have ta3 : ∀ W : World, (Instr.typeAssert (.iface 140 (.agg #[.pointer (some ⟨P, o, none⟩)])) 20 103 true).run Tryz.prog W = .ok (.tuple #[.pointer none, .bool false]) W := fun W => by kernel_rfl
      go_enter Tryz.func106, Tryz.ntmps106
      go_wp2_with (go_at_call 71; refine CN.out.mono ?_; rintro e w1 ⟨rfl, h1⟩; subst w1)
      go_ret
      first | exact ⟨rfl, _, R0.out, HA.out⟩ | exact ⟨rfl, _, .bool false, R0.out, HA.out⟩
    | cons x r =>
      have hx := hs x (by simp)
      have CN := hid (next_cons A (h0.later (A.into (List.mem_cons_of_mem _ (List.mem_cons_of_mem _ hi)))) (by simp only [List.length_cons] at hl; omega))
      obtain ⟨z, hz⟩ : ∃ z, C[o]? = some z := ⟨_, List.getElem?_eq_getElem ho⟩
      have CW : Hid (∀ s' W, All (blkC R [s'] 124 :: blkC P C 36 :: cs) W → Calls Tryz.prog 133 #[thV P (.sta o), .string ⟨x.toArray⟩] W (RWPost P o C ((stW x).isSome) (.int .i64 (((stW x).getD 0 : Nat) : Int)) (blkC R [s'] 124 :: cs))) := hid (fun s' W hW => rw_sta (hE _ hW.tail.tail) hz hx hW.swap)
      have R0 := hid h0
      clear A hE hi hl hs ho hz h0 hx
      simp only [thV] at CW ⊢
      unfold TRPost
      simp only [rd1, putC, ownOf, List.nil_append, List.drop_succ_cons, List.drop_zero]
      unfold RWPost at CW
      generalize ByteArray.mk x.toArray = X at *
      generalize (stW x).isSome = B at *
      have ta0 : ∀ W : World, (Instr.typeAssert (.iface 140 (.agg #[.pointer (some ⟨P, o, none⟩)])) 20 99 true).run Tryz.prog W = .ok (.tuple #[.pointer none, .bool false]) W := fun W => by kernel_rfl
      have ta1 : ∀ W : World, (Instr.typeAssert (.iface 140 (.agg #[.pointer (some ⟨P, o, none⟩)])) 20 100 true).run Tryz.prog W = .ok (.tuple #[.pointer none, .bool false]) W := fun W => by kernel_rfl
      have ta2 : ∀ W : World, (Instr.typeAssert (.iface 140 (.agg #[.pointer (some ⟨P, o, none⟩)])) 20 102 true).run Tryz.prog W = .ok (.tuple #[.pointer none, .bool false]) W := fun W => by kernel_rfl
      have ta3 : ∀ W : World, (Instr.typeAssert (.iface 140 (.agg #[.pointer (some ⟨P, o, none⟩)])) 20 103 true).run Tryz.prog W = .ok (.tuple #[.pointer none, .bool false]) W := fun W => by kernel_rfl
      cases B
      all_goals
        go_enter Tryz.func106, Tryz.ntmps106
        go_wp2_with (first | (go_at_call 71; refine CN.out.mono ?_; rintro e w1 ⟨rfl, s1, R1, A1⟩; have K1 := hid A1; have RR1 := hid (R1 _ R0.out); clear A1 R1) | (go_at_call 133; refine (CW.out _ _ K1.out).mono ?_; rintro e w2 ⟨rfl, A2⟩; have K2 := hid A2.swap; clear A2))
        go_ret
        exact ⟨rfl, _, RR1.out, K2.out⟩
  | fre o =>
    cases l with
    | nil =>
      obtain ⟨ao, c, rfl⟩ := h0.form
      have CN := hid (next_nil (R := R) (ao := ao) (c := c) A)
      have HA := hid A
      have R0 := hid h0
      clear A hE h0 hi hl hs ho
      simp only [thV]
      unfold TRPost
      simp only [rd1, putC, ownOf, List.nil_append, List.drop_nil]
      have ta0 : ∀ W : World, (Instr.typeAssert (.iface 101 (.pointer (some ⟨P, o, none⟩))) 20 99 true).run Tryz.prog W = .ok (.tuple #[.pointer none, .bool false]) W := fun W => by kernel_rfl
      have ta1 : ∀ W : World, (Instr.typeAssert (.iface 101 (.pointer (some ⟨P, o, none⟩))) 20 100 true).run Tryz.prog W = .ok (.tuple #[.pointer none, .bool false]) W := fun W => by kernel_rfl
      have ta2 : ∀ W : World, (Instr.typeAssert (.iface 101 (.pointer (some ⟨P, o, none⟩))) 20 102 true).run Tryz.prog W = .ok (.tuple #[.pointer none, .bool false]) W := fun W => by kernel_rfl
      have ta3 : ∀ W : World, (Instr.typeAssert (.iface 101 (.pointer (some ⟨P, o, none⟩))) 20 103 true).run Tryz.prog W = .ok (.tuple #[.pointer none, .bool false]) W := fun W => by kernel_rfl
      go_enter Tryz.func106, Tryz.ntmps106
      go_wp2_with (go_at_call 71; refine CN.out.mono ?_; rintro e w1 ⟨rfl, h1⟩; subst w1)
      go_ret
      first | exact ⟨rfl, _, R0.out, HA.out⟩ | exact ⟨rfl, _, .bool false, R0.out, HA.out⟩
    | cons x r =>
      have hx := hs x (by simp)
      have CN := hid (next_cons A (h0.later (A.into (List.mem_cons_of_mem _ (List.mem_cons_of_mem _ hi)))) (by simp only [List.length_cons] at hl; omega))
      obtain ⟨z, hz⟩ : ∃ z, C[o]? = some z := ⟨_, List.getElem?_eq_getElem ho⟩
      have CW : Hid (∀ s' W, All (blkC R [s'] 124 :: blkC P C 36 :: cs) W → Calls Tryz.prog 133 #[thV P (.fre o), .string ⟨x.toArray⟩] W (RWPost P o C ((decide (x = [102, 114, 101, 115, 104]) || decide (x = [111, 108, 100]))) (.bool (decide (x = [102, 114, 101, 115, 104]))) (blkC R [s'] 124 :: cs))) := hid (fun s' W hW => rw_fre (hE _ hW.tail.tail) hz hx hW.swap)
      have R0 := hid h0
      clear A hE hi hl hs ho hz h0 hx
      simp only [thV] at CW ⊢
      unfold TRPost
      simp only [rd1, putC, ownOf, List.nil_append, List.drop_succ_cons, List.drop_zero]
      unfold RWPost at CW
      generalize ByteArray.mk x.toArray = X at *
      generalize (decide (x = [102, 114, 101, 115, 104]) || decide (x = [111, 108, 100])) = B at *
      have ta0 : ∀ W : World, (Instr.typeAssert (.iface 101 (.pointer (some ⟨P, o, none⟩))) 20 99 true).run Tryz.prog W = .ok (.tuple #[.pointer none, .bool false]) W := fun W => by kernel_rfl
      have ta1 : ∀ W : World, (Instr.typeAssert (.iface 101 (.pointer (some ⟨P, o, none⟩))) 20 100 true).run Tryz.prog W = .ok (.tuple #[.pointer none, .bool false]) W := fun W => by kernel_rfl
      have ta2 : ∀ W : World, (Instr.typeAssert (.iface 101 (.pointer (some ⟨P, o, none⟩))) 20 102 true).run Tryz.prog W = .ok (.tuple #[.pointer none, .bool false]) W := fun W => by kernel_rfl
      have ta3 : ∀ W : World, (Instr.typeAssert (.iface 101 (.pointer (some ⟨P, o, none⟩))) 20 103 true).run Tryz.prog W = .ok (.tuple #[.pointer none, .bool false]) W := fun W => by kernel_rfl
      cases B
      all_goals
        go_enter Tryz.func106, Tryz.ntmps106
        go_wp2_with (first | (go_at_call 71; refine CN.out.mono ?_; rintro e w1 ⟨rfl, s1, R1, A1⟩; have K1 := hid A1; have RR1 := hid (R1 _ R0.out); clear A1 R1) | (go_at_call 133; refine (CW.out _ _ K1.out).mono ?_; rintro e w2 ⟨rfl, A2⟩; have K2 := hid A2.swap; clear A2))
        go_ret
        exact ⟨rfl, _, RR1.out, K2.out⟩
  | dat o =>
    cases l with
    | nil =>
      obtain ⟨ao, c, rfl⟩ := h0.form
      have CN := hid (next_nil (R := R) (ao := ao) (c := c) A)
      have HA := hid A
      have R0 := hid h0
      clear A hE h0 hi hl hs ho
      simp only [thV]
      unfold TRPost
      simp only [rd1, putC, ownOf, List.nil_append, List.drop_nil]
      have ta0 : ∀ W : World, (Instr.typeAssert (.iface 141 (.pointer (some ⟨P, o, none⟩))) 20 99 true).run Tryz.prog W = .ok (.tuple #[.pointer none, .bool false]) W := fun W => by kernel_rfl
      have ta1 : ∀ W : World, (Instr.typeAssert (.iface 141 (.pointer (some ⟨P, o, none⟩))) 20 100 true).run Tryz.prog W = .ok (.tuple #[.pointer none, .bool false]) W := fun W => by kernel_rfl
      have ta2 : ∀ W : World, (Instr.typeAssert (.iface 141 (.pointer (some ⟨P, o, none⟩))) 20 102 true).run Tryz.prog W = .ok (.tuple #[.pointer none, .bool false]) W := fun W => by kernel_rfl
      have ta3 : ∀ W : World, (Instr.typeAssert (.iface 141 (.pointer (some ⟨P, o, none⟩))) 20 103 true).run Tryz.prog W = .ok (.tuple #[.pointer none, .bool false]) W := fun W => by kernel_rfl
      go_enter Tryz.func106, Tryz.ntmps106
      go_wp2_with (go_at_call 71; refine CN.out.mono ?_; rintro e w1 ⟨rfl, h1⟩; subst w1)
      go_ret
      first | exact ⟨rfl, _, R0.out, HA.out⟩ | exact ⟨rfl, _, .bool false, R0.out, HA.out⟩
    | cons x r =>
      have hx := hs x (by simp)
      have CN := hid (next_cons A (h0.later (A.into (List.mem_cons_of_mem _ (List.mem_cons_of_mem _ hi)))) (by simp only [List.length_cons] at hl; omega))
      obtain ⟨z, hz⟩ : ∃ z, C[o]? = some z := ⟨_, List.getElem?_eq_getElem ho⟩
      have CW : Hid (∀ s' W, All (blkC R [s'] 124 :: blkC P C 36 :: cs) W → Calls Tryz.prog 133 #[thV P (.dat o), .string ⟨x.toArray⟩] W (fun e w1 => ∃ v, e = .returned (.bool (datR x).isSome) ∧ All (blkC P (C.set o v) 36 :: ownC 5 v (cellsB ((datR x).getD [])) :: blkC R [s'] 124 :: cs) w1)) := hid (fun s' W hW => rw_dat (hE _ hW.tail.tail) hz hx hW.swap)
      have R0 := hid h0
      clear A hE hi hl hs ho hz h0 hx
      simp only [thV] at CW ⊢
      unfold TRPost
      simp only [rd1, putC, ownOf, List.nil_append, List.cons_append, List.drop_succ_cons, List.drop_zero]
      
      generalize ByteArray.mk x.toArray = X at *
      generalize (datR x).isSome = B at *
      have ta0 : ∀ W : World, (Instr.typeAssert (.iface 141 (.pointer (some ⟨P, o, none⟩))) 20 99 true).run Tryz.prog W = .ok (.tuple #[.pointer none, .bool false]) W := fun W => by kernel_rfl
      have ta1 : ∀ W : World, (Instr.typeAssert (.iface 141 (.pointer (some ⟨P, o, none⟩))) 20 100 true).run Tryz.prog W = .ok (.tuple #[.pointer none, .bool false]) W := fun W => by kernel_rfl
      have ta2 : ∀ W : World, (Instr.typeAssert (.iface 141 (.pointer (some ⟨P, o, none⟩))) 20 102 true).run Tryz.prog W = .ok (.tuple #[.pointer none, .bool false]) W := fun W => by kernel_rfl
      have ta3 : ∀ W : World, (Instr.typeAssert (.iface 141 (.pointer (some ⟨P, o, none⟩))) 20 103 true).run Tryz.prog W = .ok (.tuple #[.pointer none, .bool false]) W := fun W => by kernel_rfl
      cases B
      all_goals
        go_enter Tryz.func106, Tryz.ntmps106
        go_wp2_with (first | (go_at_call 71; refine CN.out.mono ?_; rintro e w1 ⟨rfl, s1, R1, A1⟩; have K1 := hid A1; have RR1 := hid (R1 _ R0.out); clear A1 R1) | (go_at_call 133; refine (CW.out _ _ K1.out).mono ?_; rintro e w2 ⟨v2, rfl, A2⟩; have K2 := hid (A2.perm (((List.Perm.swap _ _ _).cons _).trans (List.Perm.swap _ _ _))); clear A2))
        go_ret
        exact ⟨rfl, _, RR1.out, _, K2.out⟩
end Go.Proofs.YtfeppannfcbakaaGreatDoor

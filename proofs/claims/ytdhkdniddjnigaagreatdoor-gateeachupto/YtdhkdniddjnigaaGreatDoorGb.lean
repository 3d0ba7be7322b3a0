import Derived.Test.YtdhkdniddjnigaaGreatDoorGp
import Derived.Test.YtdhkdniddjnigaaGreatDoorNum
import Derived.Test.YtdhkdniddjnigaaGreatDoorD1
namespace Go.Proofs.YtdhkdniddjnigaaGreatDoor
open Go.RowKit
set_option linter.unusedVariables false

set_option maxHeartbeats 1600000 in
set_option maxRecDepth 1000000 in
/-- A line is told. -/
theorem tell_any {G : Nat} {a0 a1 a2 a3 a4 a5 tov : Value} {tl : List UInt8} {no : Int} {v : Value} {l : Ws} {cs : List Comp} {w : World} (A : All (blkC G [a0, a1, a2, a3, a4, a5, tov] 79 :: ownC 5 tov (cellsB tl) :: cs) w) (hV : ∀ W, All cs W → Vars W) (hR : ∀ W, All cs W → Rt W v l) (h0 : 0 ≤ no) (h1 : no ≤ 4611686018427387904) (hl : l.length ≤ 1000) (hJ : lenJ (Lib.itoa no :: l) ≤ 100000000) (hJ2 : (joinW (Lib.itoa no :: l)).length ≤ 1000000000) (ht : tl.length ≤ 100000000000000) :
    Calls Tryz.prog 62 #[.pointer (some ⟨G, 3, none⟩), .int .i64 no, v] w fun e w' => e = .returned (.tuple #[]) ∧ ∃ tov', All (blkC G [a0, a1, a2, a3, a4, a5, tov'] 79 :: ownC 5 tov' (cellsB (tl ++ lnB no l)) :: cs) w' := by
  obtain ⟨ao, c, rfl⟩ := (hR _ A.tail.tail).form
  obtain ⟨aot, ct, rfl⟩ := owns_form A.tail.1.2.1
  rw [cellsB_length] at A
  have C61 := hid (Itoa_any (hV w A.tail.tail) h0 (by omega))
  have HR := hid hR
  have HJ := hid hJ
  have HJ2 := hid hJ2
  have HL := hid hl
  have HT := hid ht
  have A0 := hid A
  unfold lnB
  clear hR hJ hl hV A ht hJ2
  generalize hX : Lib.itoa no = X at *
  clear hX h0 h1
  obtain ⟨J, hJe⟩ : ∃ J, Hid (J = joinW (X :: l)) := ⟨_, hid rfl⟩
  rw [← hJe.out]
  go_enter Tryz.func62, Tryz.ntmps62
  go_wp2_with fail
  refine C61.out.mono ?_
  rintro e w1 ⟨rfl, B1⟩
  have A1 := hid (A0.out.later B1)
  clear B1 A0 C61
  obtain ⟨ao1, c1, w2, hr, A2⟩ := appR (own_new A1.out [X] (by simp)) ((HR.out _ A1.out.tail.tail).later (ba _ _)) (by have := HL.out; simp only [List.length_cons, List.length_nil]; omega)
  have R : Hid ((Builtin.append_ #[43, 43] 43 #[.slice (some ⟨w1.heap.size, 0, none⟩) 1 1, .slice ao l.length c]).run Tryz.prog (w1.alloc (.cells #[.string ⟨X.toArray⟩] 9)) = .ok (.slice ao1 (1 + l.length) c1) w2) := hid hr
  have A2 : Hid (All (ownC 9 (.slice ao1 (1 + l.length) c1) (txW (X :: l)) :: blkC G [a0, a1, a2, a3, a4, a5, .slice aot tl.length ct] 79 :: ownC 5 (.slice aot tl.length ct) (cellsB tl) :: cs) w2) := hid A2
  have JC := hid (Join_any (w := w2) (rt_own A2.out) (by have := HL.out; simp only [List.length_cons]; omega) (by have := HJ.out; omega))
  rw [← hJe.out] at JC
  have HJ3 : Hid (J.length ≤ 1000000000) := hid (by rw [hJe.out]; exact HJ2.out)
  clear hr A1 HR hJe HJ2 HJ
  generalize l.length = n at *
  go_upto_region 1 with (first | (at_builtin; refine wpList_append_run rfl _ _ 43 rfl _ _ _ _ rfl rfl R.out ?_) | (go_at_call 101; refine JC.out.mono ?_; rintro e w3 ⟨rfl, B3⟩; have A3 := hid (A2.out.later B3).tail))
  have c6 : w3.cell? ⟨G, 6, none⟩ = some (.slice aot tl.length ct) := by rw [cell_at A3.out.1.2.1]; rfl
  clear JC A2 R B3
  obtain ⟨ao4, c4, w4, hr4, A4⟩ := appStr (x := J) A3.out.swap (by have := HT.out; have := HJ3.out; omega)
  have R4 := hid hr4
  have A5 := A4.alloc (.cells #[.int .u8 10] 5)
  obtain ⟨ao5, c5, w5, hr5, A6⟩ := appB (p := [10]) (ao2 := some ⟨w4.heap.size, 0, none⟩) (n2 := 1) (c2 := 1) A5 ⟨_, 1, rfl, by simp, Or.inr ⟨_, 0, rfl, by simp, fun j u hu => by
    rw [Nat.zero_add, cell_at (heap_alloc_new w4 _)]
    simpa [cellsB] using hu⟩⟩ (by have := HT.out; have := HJ3.out; rw [List.length_append]; simp only [List.length_cons, List.length_nil]; omega)
  have R5 := hid hr5
  have f6 := free_at A6.swap.1.2.1 6
  have c6' : w5.cell? ⟨G, 6, none⟩ = some (.slice aot tl.length ct) := by rw [cell_at A6.swap.1.2.1]; rfl
  have A7 := hid (A6.swap.setBlk 6 (.slice ao5 ((tl ++ J).length + [10].length) c5))
  have e7 : tl ++ J ++ [10] = tl ++ (J ++ [10]) := List.append_assoc _ _ _
  rw [e7] at A7
  clear hr4 hr5 A3 A4 A5 A6 HT HJ3 HL e7
  generalize (tl ++ J).length + [10].length = n5 at *
  generalize (tl ++ J).length = n4 at *
  go_wp2_with (first | (at_builtin; refine wpList_append_run2 rfl _ _ 40 9 rfl _ _ _ _ rfl rfl R4.out ?_) | (at_builtin; refine wpList_append_run rfl _ _ 40 rfl _ _ _ _ rfl rfl R5.out ?_))
  go_end0
  exact ⟨rfl, _, A7.out⟩
end Go.Proofs.YtdhkdniddjnigaaGreatDoor

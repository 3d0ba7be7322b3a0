import Derived.Test.YtfeppannfcbakaaGreatDoorJ9
namespace Go.Proofs.YtfeppannfcbakaaGreatDoor
open Go.RowKit
set_option linter.unusedVariables false
set_option maxRecDepth 1000000
set_option maxHeartbeats 3200000
theorem sameOp_true (k n m : Int) (nm tx : ByteArray) {cs : List Comp} {w : World} (A : All cs w) : Calls Tryz.prog 31 #[.agg #[.int .i64 k, .string nm, .string tx, .int .i64 n, .int .i64 m], .agg #[.int .i64 k, .string nm, .string tx, .int .i64 n, .int .i64 m]] w fun e w' => e = .returned (.bool true) ∧ All cs w' := by
 have A0 := hid ((A.addBlk [.int .i64 k, .string nm, .string tx, .int .i64 n, .int .i64 m] 24).addBlk [.int .i64 k, .string nm, .string tx, .int .i64 n, .int .i64 m] 24)
 rw [alloc_size] at A0
 have c0_0 := cell_in (P := w.heap.size) (o := 0) (v := .int .i64 k) A0.out (t := 24) (List.mem_cons_of_mem _ (List.mem_cons_self)) rfl
 have c0_1 := cell_in (P := w.heap.size) (o := 1) (v := .string nm) A0.out (t := 24) (List.mem_cons_of_mem _ (List.mem_cons_self)) rfl
 have c0_2 := cell_in (P := w.heap.size) (o := 2) (v := .string tx) A0.out (t := 24) (List.mem_cons_of_mem _ (List.mem_cons_self)) rfl
 have c0_3 := cell_in (P := w.heap.size) (o := 3) (v := .int .i64 n) A0.out (t := 24) (List.mem_cons_of_mem _ (List.mem_cons_self)) rfl
 have c0_4 := cell_in (P := w.heap.size) (o := 4) (v := .int .i64 m) A0.out (t := 24) (List.mem_cons_of_mem _ (List.mem_cons_self)) rfl
 have c1_0 := cell_in (P := (w.heap.size + 1)) (o := 0) (v := .int .i64 k) A0.out (t := 24) (List.mem_cons_self) rfl
 have c1_1 := cell_in (P := (w.heap.size + 1)) (o := 1) (v := .string nm) A0.out (t := 24) (List.mem_cons_self) rfl
 have c1_2 := cell_in (P := (w.heap.size + 1)) (o := 2) (v := .string tx) A0.out (t := 24) (List.mem_cons_self) rfl
 have c1_3 := cell_in (P := (w.heap.size + 1)) (o := 3) (v := .int .i64 n) A0.out (t := 24) (List.mem_cons_self) rfl
 have c1_4 := cell_in (P := (w.heap.size + 1)) (o := 4) (v := .int .i64 m) A0.out (t := 24) (List.mem_cons_self) rfl
 have KK := hid A0.out.tail.tail
 clear A A0
 go_enter Tryz.func31, Tryz.ntmps31
 go_wp2
 go_ret
 exact ⟨by first | rfl | simp, KK.out⟩
theorem sameLook_true (l0 l1 l2 l3 l4 l5 l6 l7 : Int) {cs : List Comp} {w : World} (A : All cs w) : Calls Tryz.prog 32 #[.agg #[.int .i64 l0, .int .i64 l1, .int .i64 l2, .int .i64 l3, .int .i64 l4, .int .i64 l5, .int .i64 l6, .int .i64 l7], .agg #[.int .i64 l0, .int .i64 l1, .int .i64 l2, .int .i64 l3, .int .i64 l4, .int .i64 l5, .int .i64 l6, .int .i64 l7]] w fun e w' => e = .returned (.bool true) ∧ All cs w' := by
 have A0 := hid ((A.addBlk [.int .i64 l0, .int .i64 l1, .int .i64 l2, .int .i64 l3, .int .i64 l4, .int .i64 l5, .int .i64 l6, .int .i64 l7] 31).addBlk [.int .i64 l0, .int .i64 l1, .int .i64 l2, .int .i64 l3, .int .i64 l4, .int .i64 l5, .int .i64 l6, .int .i64 l7] 31)
 rw [alloc_size] at A0
 have c0_0 := cell_in (P := w.heap.size) (o := 0) (v := .int .i64 l0) A0.out (t := 31) (List.mem_cons_of_mem _ (List.mem_cons_self)) rfl
 have c0_1 := cell_in (P := w.heap.size) (o := 1) (v := .int .i64 l1) A0.out (t := 31) (List.mem_cons_of_mem _ (List.mem_cons_self)) rfl
 have c0_2 := cell_in (P := w.heap.size) (o := 2) (v := .int .i64 l2) A0.out (t := 31) (List.mem_cons_of_mem _ (List.mem_cons_self)) rfl
 have c0_3 := cell_in (P := w.heap.size) (o := 3) (v := .int .i64 l3) A0.out (t := 31) (List.mem_cons_of_mem _ (List.mem_cons_self)) rfl
 have c0_4 := cell_in (P := w.heap.size) (o := 4) (v := .int .i64 l4) A0.out (t := 31) (List.mem_cons_of_mem _ (List.mem_cons_self)) rfl
 have c0_5 := cell_in (P := w.heap.size) (o := 5) (v := .int .i64 l5) A0.out (t := 31) (List.mem_cons_of_mem _ (List.mem_cons_self)) rfl
 have c0_6 := cell_in (P := w.heap.size) (o := 6) (v := .int .i64 l6) A0.out (t := 31) (List.mem_cons_of_mem _ (List.mem_cons_self)) rfl
 have c0_7 := cell_in (P := w.heap.size) (o := 7) (v := .int .i64 l7) A0.out (t := 31) (List.mem_cons_of_mem _ (List.mem_cons_self)) rfl
 have c1_0 := cell_in (P := (w.heap.size + 1)) (o := 0) (v := .int .i64 l0) A0.out (t := 31) (List.mem_cons_self) rfl
 have c1_1 := cell_in (P := (w.heap.size + 1)) (o := 1) (v := .int .i64 l1) A0.out (t := 31) (List.mem_cons_self) rfl
 have c1_2 := cell_in (P := (w.heap.size + 1)) (o := 2) (v := .int .i64 l2) A0.out (t := 31) (List.mem_cons_self) rfl
 have c1_3 := cell_in (P := (w.heap.size + 1)) (o := 3) (v := .int .i64 l3) A0.out (t := 31) (List.mem_cons_self) rfl
 have c1_4 := cell_in (P := (w.heap.size + 1)) (o := 4) (v := .int .i64 l4) A0.out (t := 31) (List.mem_cons_self) rfl
 have c1_5 := cell_in (P := (w.heap.size + 1)) (o := 5) (v := .int .i64 l5) A0.out (t := 31) (List.mem_cons_self) rfl
 have c1_6 := cell_in (P := (w.heap.size + 1)) (o := 6) (v := .int .i64 l6) A0.out (t := 31) (List.mem_cons_self) rfl
 have c1_7 := cell_in (P := (w.heap.size + 1)) (o := 7) (v := .int .i64 l7) A0.out (t := 31) (List.mem_cons_self) rfl
 have KK := hid A0.out.tail.tail
 clear A A0
 go_enter Tryz.func32, Tryz.ntmps32
 go_wp2
 go_ret
 exact ⟨by first | rfl | simp, KK.out⟩
theorem sameTexts_true {r s : Value} {l : Ws} {cs : List Comp} {w : World} (A : All cs w) (hr : ∀ W, All cs W → Rt W r l) (hs : ∀ W, All cs W → Rt W s l) (hl : l.length ≤ 140737488355328) : Calls Tryz.prog 33 #[r, s] w fun e w' => e = .returned (.bool true) ∧ All cs w' := by
 obtain ⟨a1, c1, rfl⟩ := (hr w A).form
 obtain ⟨a2, c2, rfl⟩ := (hs w A).form
 have GA : Hid (∀ W i, All cs W → i < l.length → ∃ g o, a1 = some ⟨g, o, none⟩ ∧ g < W.heap.size ∧ W.cell? ⟨g, o + i, none⟩ = some (.string ⟨(l.getD i []).toArray⟩)) := hid (fun W i h hi => (hr W h).at hi)
 have GB : Hid (∀ W i, All cs W → i < l.length → ∃ g o, a2 = some ⟨g, o, none⟩ ∧ g < W.heap.size ∧ W.cell? ⟨g, o + i, none⟩ = some (.string ⟨(l.getD i []).toArray⟩)) := hid (fun W i h hi => (hs W h).at hi)
 have KK := hid A
 clear A hr hs
 generalize hn : l.length = n at *
 clear hn
 go_enter Tryz.func33, Tryz.ntmps33
 go_wp2
 go_loopw [5] (fun iv wr => ∃ k q : Nat, k ≤ n ∧ iv = .int .i64 (k : Int) ∧ w.drewN q = wr) (fun iv _ => n - (intOf iv).toNat)
 case atStart => exact ⟨0, 0, by omega, rfl, rfl⟩
 case round =>
   obtain ⟨k, q, hk, rfl, rfl⟩ := hrel
   by_cases hlt : k < n
   · have hlt' : (k : Int) < (n : Int) := by omega
     obtain ⟨g1, o1, rfl, e1, f1⟩ := GA.out _ k KK.out hlt
     obtain ⟨g2, o2, rfl, e2, f2⟩ := GB.out _ k KK.out hlt
     generalize ByteArray.mk (l.getD k []).toArray = X at *
     have hb' : (X.toList != X.toList) = false := by simp
     go_wp2
     go_region
     go_wp2
     go_roundw
     case rel => exact ⟨k + 1, q + 1, by omega, by go_num, by rfl⟩
     case measure => simp [intOf]; omega
   · have hlt' : ¬ (k : Int) < (n : Int) := by omega
     go_wp2
     go_ret
     exact ⟨rfl, KK.out.later (bdN _ _)⟩
theorem same_true {r s : Value} {l : List UInt8} {cs : List Comp} {w : World} (A : All cs w) (hr : ∀ W, All cs W → BRd W r l) (hs : ∀ W, All cs W → BRd W s l) (hl : l.length ≤ 140737488355328) : Calls Tryz.prog 34 #[r, s] w fun e w' => e = .returned (.bool true) ∧ All cs w' := by
 obtain ⟨a1, c1, rfl⟩ := (hr w A).form
 obtain ⟨a2, c2, rfl⟩ := (hs w A).form
 have GA : Hid (∀ W i, All cs W → i < l.length → ∃ g o b, a1 = some ⟨g, o, none⟩ ∧ l[i]? = some b ∧ W.cell? ⟨g, o + i, none⟩ = some (.int .u8 (b.toNat : Int))) := hid (fun W i h hi => (hr W h).at hi)
 have GB : Hid (∀ W i, All cs W → i < l.length → ∃ g o b, a2 = some ⟨g, o, none⟩ ∧ l[i]? = some b ∧ W.cell? ⟨g, o + i, none⟩ = some (.int .u8 (b.toNat : Int))) := hid (fun W i h hi => (hs W h).at hi)
 have KK := hid A
 clear A hr hs
 generalize hn : l.length = n at *
 clear hn
 go_enter Tryz.func34, Tryz.ntmps34
 go_wp2
 go_loopw [5] (fun iv wr => ∃ k q : Nat, k ≤ n ∧ iv = .int .i64 (k : Int) ∧ w.drewN q = wr) (fun iv _ => n - (intOf iv).toNat)
 case atStart => exact ⟨0, 0, by omega, rfl, rfl⟩
 case round =>
   obtain ⟨k, q, hk, rfl, rfl⟩ := hrel
   by_cases hlt : k < n
   · have hlt' : (k : Int) < (n : Int) := by omega
     obtain ⟨g1, o1, x1, rfl, e1, f1⟩ := GA.out _ k KK.out hlt
     obtain ⟨g2, o2, x2, rfl, e2, f2⟩ := GB.out _ k KK.out hlt
     have ex : x1 = x2 := by rw [e1] at e2; exact Option.some.inj e2
     subst ex
     generalize (x1.toNat : Int) = X at *
     have hb' : (X != X) = false := by simp
     clear e1 e2
     go_wp2
     go_region
     go_wp2
     go_roundw
     case rel => exact ⟨k + 1, q + 1, by omega, by go_num, by rfl⟩
     case measure => simp [intOf]; omega
   · have hlt' : ¬ (k : Int) < (n : Int) := by omega
     go_wp2
     go_ret
     exact ⟨rfl, KK.out.later (bdN _ _)⟩
end Go.Proofs.YtfeppannfcbakaaGreatDoor

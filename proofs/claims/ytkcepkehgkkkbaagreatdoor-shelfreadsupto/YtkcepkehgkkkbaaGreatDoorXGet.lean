import Derived.Test.YtkcepkehgkkkbaaGreatDoorJ18
import Derived.Test.YtkcepkehgkkkbaaGreatDoorJ13
namespace Go.Proofs.YtkcepkehgkkkbaaGreatDoor
open Go.RowKit
set_option linter.unusedVariables false

/-- The document's reader fails. -/
theorem xfailRd {b : Nat} {v : Value} {B : List UInt8} {r : Rst} {cs : List Comp} {w : World} (h : All (xrC b v B r :: cs) w) (h0 : r.err = 0) (e0 : Int) (he : e0 ≠ 0) : Calls Tryz.prog 62 #[.pointer (some ⟨b, 0, none⟩), .int .i64 e0] w fun e w' => e = .returned (.tuple #[]) ∧ All (xrC b v B (r.fail e0) :: cs) w' := by
  have X : XR w b v B r.place r.err := h.1.2.1.1
  rw [h0] at X
  have c2 : w.cell? ⟨b, 2, none⟩ = some (.int .i64 0) := by rw [cell_at X.box]; rfl
  have f2 : w.frozen? ⟨b, 2, none⟩ = false := free_at X.box 2
  have X2 := hid (X.set 2 (.int .i64 e0) r.place e0 rfl X.le)
  have H := hid h
  have H0 := hid h0
  have HE := hid he
  clear h X h0 he
  go_enter Tryz.func62, Tryz.ntmps62
  go_wp2
  go_end0
  refine ⟨rfl, H.out.xrstep (r' := r.fail e0) ?_ (Only.setCell _ _ _)⟩
  have e1 : r.fail e0 = ⟨[], r.place, e0⟩ := by rw [Rst.fail, if_neg HE.out, H0.out, keepE, if_pos rfl]
  rw [e1]
  exact ⟨X2.out, by simp [rsX, HE.out]⟩

/-- One that is broken already stays as it is. -/
theorem All.xdead {b : Nat} {v : Value} {B : List UInt8} {r : Rst} {cs : List Comp} {w : World} (h : All (xrC b v B r :: cs) w) (h0 : r.err ≠ 0) (e0 : Int) : All (xrC b v B (r.fail e0) :: cs) w ∧ (r.fail e0).err ≠ 0 := by
  by_cases he : e0 = 0
  · rw [Rst.fail, if_pos he]
    exact ⟨h, h0⟩
  · have hn : r.rs = [] := XRd.nil h.1.2.1 h0
    have e1 : r.fail e0 = r := by
      rw [Rst.fail, if_neg he, keepE, if_neg h0]
      obtain ⟨rs, pl, er⟩ := r
      simp only at hn
      rw [hn]
    rw [e1]
    exact ⟨h, h0⟩

theorem res13 {tmps : Array Value} {w : World} {b : Nat} {k n m : Int} {nm tx : ByteArray} (ht : tmps.getD 2 undef = .pointer (some ⟨b, 0, none⟩)) (h : w.heap[b]? = some (.cells #[.int .i64 k, .string nm, .string tx, .int .i64 n, .int .i64 m] 35 (0, 0))) : (results Tryz.f13 tmps).run Tryz.prog w = .ok (opV k nm tx n m) w := by
  have hp' : tmps[2]?.getD undef = .pointer (some ⟨b, 0, none⟩) := by simpa using ht
  have hres : Tryz.f13.results = #[.cell 2 35] := rfl
  have x0 : w.cell? ⟨b, 0, none⟩ = some (.int .i64 k) := by rw [cell_at h]; rfl
  have x1 : w.cell? ⟨b, 1, none⟩ = some (.string nm) := by rw [cell_at h]; rfl
  have x2 : w.cell? ⟨b, 2, none⟩ = some (.string tx) := by rw [cell_at h]; rfl
  have x3 : w.cell? ⟨b, 3, none⟩ = some (.int .i64 n) := by rw [cell_at h]; rfl
  have x4 : w.cell? ⟨b, 4, none⟩ = some (.int .i64 m) := by rw [cell_at h]; rfl
  simp only [results, hres]
  go_simp

set_option maxHeartbeats 3200000 in
set_option maxRecDepth 1000000 in
theorem xget0 {b : Nat} {v : Value} {B : List UInt8} {r : Rst} {cs : List Comp} {w : World} (h : All (xrC b v B r :: cs) w) (hp : B.length ≤ 140737488355328) (hk : r.numV 8 = 0) :
    Calls Tryz.prog 13 #[.pointer (some ⟨b, 0, none⟩)] w fun e w' => e = .returned (gotV ((r.num 8).fail (chkA 0 (ByteArray.size emp) (ByteArray.size emp) 0 0)) 0 emp emp 0 0) ∧ All (xrC b v B ((r.num 8).fail (chkA 0 (ByteArray.size emp) (ByteArray.size emp) 0 0)) :: cs) w' := by
  have N : ∀ W : World, Calls Tryz.prog 57 #[.int .i64 0] W fun e w' => e = .returned (.bool false) ∧ w' = W := fun W => hasName_any 0
  have L : ∀ W : World, Calls Tryz.prog 59 #[.int .i64 0] W fun e w' => e = .returned (.int .i64 (-1)) ∧ w' = W := fun W => textMost_any 0
  have M : ∀ W : World, Calls Tryz.prog 60 #[.int .i64 0] W fun e w' => e = .returned (.bool false) ∧ w' = W := fun W => hasNum_any 0
  have A0 := (h.addBlk [.int .i64 0, .string ⟨#[]⟩, .string ⟨#[]⟩, .int .i64 0, .int .i64 0] 35).addBlk [.int .i64 0, .string ⟨#[]⟩, .string ⟨#[]⟩, .int .i64 0, .int .i64 0] 35
  simp only [World.size_alloc] at A0
  have A := hid A0.rev3
  have HK := hid hk
  clear h hk A0
  generalize h5 : (r.num 8) = r5
  have H5 := hid h5
  clear h5
  generalize hck : chkA 0 (ByteArray.size emp) (ByteArray.size emp) 0 0 = ck
  have Hck := hid hck
  clear hck
  generalize hRR : r5.fail ck = R
  have HRR := hid hRR
  clear hRR
  go_enter Tryz.func13, Tryz.ntmps13
  go_wp2_with fail
  refine (xnumRd A.out hp 8).mono ?_
  rw [HK.out]
  rintro e w1 ⟨rfl, A1⟩
  have A := hid A1.rev3
  clear A1 HK
  have A := hid (show All (blkC (w.heap.size + 1) [.int .i64 0, .string ⟨#[]⟩, .string ⟨#[]⟩, .int .i64 0, .int .i64 0] 35 :: blkC w.heap.size [.int .i64 0, .string ⟨#[]⟩, .string ⟨#[]⟩, .int .i64 0, .int .i64 0] 35 :: xrC b v B (r.num 8) :: cs) w1 from A.out)
  have hb := A.out.blk (g := (w.heap.size + 1)) (vs := [.int .i64 0, .string ⟨#[]⟩, .string ⟨#[]⟩, .int .i64 0, .int .i64 0]) (t := 35) List.mem_cons_self
  have q : w1.cell? ⟨(w.heap.size + 1), 0, none⟩ = some (.int .i64 0) := by rw [cell_at hb]; rfl
  have qf : w1.frozen? ⟨(w.heap.size + 1), 0, none⟩ = false := free_at hb 0
  clear hb
  have A := hid (show All (blkC (w.heap.size + 1) [.int .i64 0, .string ⟨#[]⟩, .string ⟨#[]⟩, .int .i64 0, .int .i64 0] 35 :: blkC w.heap.size [.int .i64 0, .string ⟨#[]⟩, .string ⟨#[]⟩, .int .i64 0, .int .i64 0] 35 :: xrC b v B (r.num 8) :: cs) (w1.setCell ⟨(w.heap.size + 1), 0, none⟩ (.int .i64 0)) from A.out.setBlk 0 (.int .i64 0))
  generalize hG1 : w1.setCell ⟨(w.heap.size + 1), 0, none⟩ (.int .i64 0) = w2 at A
  have hb := A.out.blk (g := (w.heap.size + 1)) (vs := [.int .i64 0, .string ⟨#[]⟩, .string ⟨#[]⟩, .int .i64 0, .int .i64 0]) (t := 35) List.mem_cons_self
  have o0 : w2.cell? ⟨(w.heap.size + 1), 0, none⟩ = some (.int .i64 0) := by rw [cell_at hb]; rfl
  clear hb
  go_wp2_with fail
  refine (N _).mono ?_
  rintro e _ ⟨rfl, rfl⟩
  go_wp2_with fail
  refine (L _).mono ?_
  rintro e _ ⟨rfl, rfl⟩
  go_wp2_with fail
  refine (M _).mono ?_
  rintro e _ ⟨rfl, rfl⟩
  rw [H5.out] at A
  clear H5
  go_wp2_with fail
  refine (xerrRd A.out.rev3).mono ?_
  rintro e w3 ⟨rfl, A1⟩
  have A := hid A1.rev3
  clear A1 o0
  by_cases her : r5.err = 0
  · have e1 : (r5.err == 0) = true := by rw [beq_iff_eq]; exact her
    have e2 : (r5.err != 0) = false := by simp [her]
    have her := hid her
    have hb := A.out.blk (g := (w.heap.size + 1)) (vs := [.int .i64 0, .string ⟨#[]⟩, .string ⟨#[]⟩, .int .i64 0, .int .i64 0]) (t := 35) List.mem_cons_self
    have o0 : w3.cell? ⟨(w.heap.size + 1), 0, none⟩ = some (.int .i64 0) := by rw [cell_at hb]; rfl
    have o1 : w3.cell? ⟨(w.heap.size + 1), 1, none⟩ = some (.string ⟨#[]⟩) := by rw [cell_at hb]; rfl
    have o2 : w3.cell? ⟨(w.heap.size + 1), 2, none⟩ = some (.string ⟨#[]⟩) := by rw [cell_at hb]; rfl
    have o3 : w3.cell? ⟨(w.heap.size + 1), 3, none⟩ = some (.int .i64 0) := by rw [cell_at hb]; rfl
    have o4 : w3.cell? ⟨(w.heap.size + 1), 4, none⟩ = some (.int .i64 0) := by rw [cell_at hb]; rfl
    clear hb
    go_wp2_with fail
    refine (rcheck_any 0 emp emp 0 0).mono ?_
    rw [Hck.out]
    rintro e w4 ⟨rfl, Bh⟩
    have A := hid (A.out.later Bh)
    clear Bh o0 o1 o2 o3 o4 e1 e2
    by_cases hc : ck = 0
    · subst hc
      rw [fail_zero] at HRR
      have hb := A.out.blk (g := (w.heap.size + 1)) (vs := [.int .i64 0, .string ⟨#[]⟩, .string ⟨#[]⟩, .int .i64 0, .int .i64 0]) (t := 35) List.mem_cons_self
      have o0 : w4.cell? ⟨(w.heap.size + 1), 0, none⟩ = some (.int .i64 0) := by rw [cell_at hb]; rfl
      have o1 : w4.cell? ⟨(w.heap.size + 1), 1, none⟩ = some (.string ⟨#[]⟩) := by rw [cell_at hb]; rfl
      have o2 : w4.cell? ⟨(w.heap.size + 1), 2, none⟩ = some (.string ⟨#[]⟩) := by rw [cell_at hb]; rfl
      have o3 : w4.cell? ⟨(w.heap.size + 1), 3, none⟩ = some (.int .i64 0) := by rw [cell_at hb]; rfl
      have o4 : w4.cell? ⟨(w.heap.size + 1), 4, none⟩ = some (.int .i64 0) := by rw [cell_at hb]; rfl
      clear hb
      have A := hid A.out.swap
      have hb := A.out.blk (g := w.heap.size) (vs := [.int .i64 0, .string ⟨#[]⟩, .string ⟨#[]⟩, .int .i64 0, .int .i64 0]) (t := 35) List.mem_cons_self
      have z0 : w4.cell? ⟨w.heap.size, 0, none⟩ = some (.int .i64 0) := by rw [cell_at hb]; rfl
      have zf0 : w4.frozen? ⟨w.heap.size, 0, none⟩ = false := free_at hb 0
      have z1 : w4.cell? ⟨w.heap.size, 1, none⟩ = some (.string ⟨#[]⟩) := by rw [cell_at hb]; rfl
      have zf1 : w4.frozen? ⟨w.heap.size, 1, none⟩ = false := free_at hb 1
      have z2 : w4.cell? ⟨w.heap.size, 2, none⟩ = some (.string ⟨#[]⟩) := by rw [cell_at hb]; rfl
      have zf2 : w4.frozen? ⟨w.heap.size, 2, none⟩ = false := free_at hb 2
      have z3 : w4.cell? ⟨w.heap.size, 3, none⟩ = some (.int .i64 0) := by rw [cell_at hb]; rfl
      have zf3 : w4.frozen? ⟨w.heap.size, 3, none⟩ = false := free_at hb 3
      have z4 : w4.cell? ⟨w.heap.size, 4, none⟩ = some (.int .i64 0) := by rw [cell_at hb]; rfl
      have zf4 : w4.frozen? ⟨w.heap.size, 4, none⟩ = false := free_at hb 4
      clear hb
      have A := hid ((((((A.out.setBlk 0 (.int .i64 0)).setBlk 1 (.string ⟨#[]⟩)).setBlk 2 (.string ⟨#[]⟩)).setBlk 3 (.int .i64 0)).setBlk 4 (.int .i64 0)))
      go_wp2
      refine bodyPost_ret (v := opV 0 emp emp 0 0) (res13 (b := w.heap.size) rfl A.out.1.2.1) rfl ?_
      have A := A.out.tail.tail
      rw [gotV, ← HRR.out, if_pos her.out]
      exact ⟨rfl, A⟩
    · have e1 : (ck == 0) = false := by rw [beq_eq_false_iff_ne]; exact hc
      have e2 : (ck != 0) = true := by simpa using hc
      have hc := hid hc
      go_wp2_with fail
      refine (xfailRd A.out.rev3 her.out ck hc.out).mono ?_
      rw [HRR.out]
      rintro e w5 ⟨rfl, A1⟩
      have A := hid A1.rev3
      clear A1
      have hR : R.err ≠ 0 := by rw [← HRR.out, Rst.fail, if_neg hc.out, her.out, keepE, if_pos rfl]; exact hc.out
      have hR := hid hR
      clear HRR her hc
      have A := hid A.out.swap
      have hb := A.out.blk (g := w.heap.size) (vs := [.int .i64 0, .string ⟨#[]⟩, .string ⟨#[]⟩, .int .i64 0, .int .i64 0]) (t := 35) List.mem_cons_self
      have z0 : w5.cell? ⟨w.heap.size, 0, none⟩ = some (.int .i64 0) := by rw [cell_at hb]; rfl
      have zf0 : w5.frozen? ⟨w.heap.size, 0, none⟩ = false := free_at hb 0
      have z1 : w5.cell? ⟨w.heap.size, 1, none⟩ = some (.string ⟨#[]⟩) := by rw [cell_at hb]; rfl
      have zf1 : w5.frozen? ⟨w.heap.size, 1, none⟩ = false := free_at hb 1
      have z2 : w5.cell? ⟨w.heap.size, 2, none⟩ = some (.string ⟨#[]⟩) := by rw [cell_at hb]; rfl
      have zf2 : w5.frozen? ⟨w.heap.size, 2, none⟩ = false := free_at hb 2
      have z3 : w5.cell? ⟨w.heap.size, 3, none⟩ = some (.int .i64 0) := by rw [cell_at hb]; rfl
      have zf3 : w5.frozen? ⟨w.heap.size, 3, none⟩ = false := free_at hb 3
      have z4 : w5.cell? ⟨w.heap.size, 4, none⟩ = some (.int .i64 0) := by rw [cell_at hb]; rfl
      have zf4 : w5.frozen? ⟨w.heap.size, 4, none⟩ = false := free_at hb 4
      clear hb
      have A := hid ((((((A.out.setBlk 0 (.int .i64 0)).setBlk 1 (.string ⟨#[]⟩)).setBlk 2 (.string ⟨#[]⟩)).setBlk 3 (.int .i64 0)).setBlk 4 (.int .i64 0)))
      go_wp2
      refine bodyPost_ret (v := opV 0 emp emp 0 0) (res13 (b := w.heap.size) rfl A.out.1.2.1) rfl ?_
      have A := A.out.tail.tail
      rw [gotV, if_neg hR.out]
      exact ⟨rfl, A⟩
  · have e1 : (r5.err == 0) = false := by rw [beq_eq_false_iff_ne]; exact her
    have e2 : (r5.err != 0) = true := by simpa using her
    have hx := A.out.rev3.xdead her ck
    rw [HRR.out] at hx
    have A := hid hx.1.rev3
    have hR := hid hx.2
    clear hx her HRR
    have A := hid A.out.swap
    have hb := A.out.blk (g := w.heap.size) (vs := [.int .i64 0, .string ⟨#[]⟩, .string ⟨#[]⟩, .int .i64 0, .int .i64 0]) (t := 35) List.mem_cons_self
    have z0 : w3.cell? ⟨w.heap.size, 0, none⟩ = some (.int .i64 0) := by rw [cell_at hb]; rfl
    have zf0 : w3.frozen? ⟨w.heap.size, 0, none⟩ = false := free_at hb 0
    have z1 : w3.cell? ⟨w.heap.size, 1, none⟩ = some (.string ⟨#[]⟩) := by rw [cell_at hb]; rfl
    have zf1 : w3.frozen? ⟨w.heap.size, 1, none⟩ = false := free_at hb 1
    have z2 : w3.cell? ⟨w.heap.size, 2, none⟩ = some (.string ⟨#[]⟩) := by rw [cell_at hb]; rfl
    have zf2 : w3.frozen? ⟨w.heap.size, 2, none⟩ = false := free_at hb 2
    have z3 : w3.cell? ⟨w.heap.size, 3, none⟩ = some (.int .i64 0) := by rw [cell_at hb]; rfl
    have zf3 : w3.frozen? ⟨w.heap.size, 3, none⟩ = false := free_at hb 3
    have z4 : w3.cell? ⟨w.heap.size, 4, none⟩ = some (.int .i64 0) := by rw [cell_at hb]; rfl
    have zf4 : w3.frozen? ⟨w.heap.size, 4, none⟩ = false := free_at hb 4
    clear hb
    have A := hid ((((((A.out.setBlk 0 (.int .i64 0)).setBlk 1 (.string ⟨#[]⟩)).setBlk 2 (.string ⟨#[]⟩)).setBlk 3 (.int .i64 0)).setBlk 4 (.int .i64 0)))
    go_wp2
    refine bodyPost_ret (v := opV 0 emp emp 0 0) (res13 (b := w.heap.size) rfl A.out.1.2.1) rfl ?_
    have A := A.out.tail.tail
    rw [gotV, if_neg hR.out]
    exact ⟨rfl, A⟩

set_option maxHeartbeats 3200000 in
set_option maxRecDepth 1000000 in
theorem xget1 {b : Nat} {v : Value} {B : List UInt8} {r : Rst} {cs : List Comp} {w : World} (h : All (xrC b v B r :: cs) w) (hp : B.length ≤ 140737488355328) (hk : r.numV 8 = 1) :
    Calls Tryz.prog 13 #[.pointer (some ⟨b, 0, none⟩)] w fun e w' => e = .returned (gotV (((r.num 8).txt 16).fail (chkA 1 (ByteArray.size ((r.num 8).txtV 16)) (ByteArray.size emp) 0 0)) 1 ((r.num 8).txtV 16) emp 0 0) ∧ All (xrC b v B (((r.num 8).txt 16).fail (chkA 1 (ByteArray.size ((r.num 8).txtV 16)) (ByteArray.size emp) 0 0)) :: cs) w' := by
  have N : ∀ W : World, Calls Tryz.prog 57 #[.int .i64 1] W fun e w' => e = .returned (.bool true) ∧ w' = W := fun W => hasName_any 1
  have L : ∀ W : World, Calls Tryz.prog 59 #[.int .i64 1] W fun e w' => e = .returned (.int .i64 (-1)) ∧ w' = W := fun W => textMost_any 1
  have M : ∀ W : World, Calls Tryz.prog 60 #[.int .i64 1] W fun e w' => e = .returned (.bool false) ∧ w' = W := fun W => hasNum_any 1
  have A0 := (h.addBlk [.int .i64 0, .string ⟨#[]⟩, .string ⟨#[]⟩, .int .i64 0, .int .i64 0] 35).addBlk [.int .i64 0, .string ⟨#[]⟩, .string ⟨#[]⟩, .int .i64 0, .int .i64 0] 35
  simp only [World.size_alloc] at A0
  have A := hid A0.rev3
  have HK := hid hk
  clear h hk A0
  generalize hnm : ((r.num 8).txtV 16) = nm
  have Hnm := hid hnm
  clear hnm
  generalize h5 : ((r.num 8).txt 16) = r5
  have H5 := hid h5
  clear h5
  generalize hck : chkA 1 (ByteArray.size nm) (ByteArray.size emp) 0 0 = ck
  have Hck := hid hck
  clear hck
  generalize hRR : r5.fail ck = R
  have HRR := hid hRR
  clear hRR
  go_enter Tryz.func13, Tryz.ntmps13
  go_wp2_with fail
  refine (xnumRd A.out hp 8).mono ?_
  rw [HK.out]
  rintro e w1 ⟨rfl, A1⟩
  have A := hid A1.rev3
  clear A1 HK
  have A := hid (show All (blkC (w.heap.size + 1) [.int .i64 0, .string ⟨#[]⟩, .string ⟨#[]⟩, .int .i64 0, .int .i64 0] 35 :: blkC w.heap.size [.int .i64 0, .string ⟨#[]⟩, .string ⟨#[]⟩, .int .i64 0, .int .i64 0] 35 :: xrC b v B (r.num 8) :: cs) w1 from A.out)
  have hb := A.out.blk (g := (w.heap.size + 1)) (vs := [.int .i64 0, .string ⟨#[]⟩, .string ⟨#[]⟩, .int .i64 0, .int .i64 0]) (t := 35) List.mem_cons_self
  have q : w1.cell? ⟨(w.heap.size + 1), 0, none⟩ = some (.int .i64 0) := by rw [cell_at hb]; rfl
  have qf : w1.frozen? ⟨(w.heap.size + 1), 0, none⟩ = false := free_at hb 0
  clear hb
  have A := hid (show All (blkC (w.heap.size + 1) [.int .i64 1, .string ⟨#[]⟩, .string ⟨#[]⟩, .int .i64 0, .int .i64 0] 35 :: blkC w.heap.size [.int .i64 0, .string ⟨#[]⟩, .string ⟨#[]⟩, .int .i64 0, .int .i64 0] 35 :: xrC b v B (r.num 8) :: cs) (w1.setCell ⟨(w.heap.size + 1), 0, none⟩ (.int .i64 1)) from A.out.setBlk 0 (.int .i64 1))
  generalize hG1 : w1.setCell ⟨(w.heap.size + 1), 0, none⟩ (.int .i64 1) = w2 at A
  have hb := A.out.blk (g := (w.heap.size + 1)) (vs := [.int .i64 1, .string ⟨#[]⟩, .string ⟨#[]⟩, .int .i64 0, .int .i64 0]) (t := 35) List.mem_cons_self
  have o0 : w2.cell? ⟨(w.heap.size + 1), 0, none⟩ = some (.int .i64 1) := by rw [cell_at hb]; rfl
  clear hb
  go_wp2_with fail
  refine (N _).mono ?_
  rintro e _ ⟨rfl, rfl⟩
  go_wp2_with fail
  refine (xtextRd A.out.rev3 hp 16).mono ?_
  rw [Hnm.out]
  rintro e w3 ⟨rfl, A1⟩
  have A := hid A1.rev3
  clear A1 o0
  have hb := A.out.blk (g := (w.heap.size + 1)) (vs := [.int .i64 1, .string ⟨#[]⟩, .string ⟨#[]⟩, .int .i64 0, .int .i64 0]) (t := 35) List.mem_cons_self
  have q : w3.cell? ⟨(w.heap.size + 1), 1, none⟩ = some (.string ⟨#[]⟩) := by rw [cell_at hb]; rfl
  have qf : w3.frozen? ⟨(w.heap.size + 1), 1, none⟩ = false := free_at hb 1
  clear hb
  have A := hid (show All (blkC (w.heap.size + 1) [.int .i64 1, .string nm, .string ⟨#[]⟩, .int .i64 0, .int .i64 0] 35 :: blkC w.heap.size [.int .i64 0, .string ⟨#[]⟩, .string ⟨#[]⟩, .int .i64 0, .int .i64 0] 35 :: xrC b v B ((r.num 8).txt 16) :: cs) (w3.setCell ⟨(w.heap.size + 1), 1, none⟩ (.string nm)) from A.out.setBlk 1 (.string nm))
  generalize hG3 : w3.setCell ⟨(w.heap.size + 1), 1, none⟩ (.string nm) = w4 at A
  have hb := A.out.blk (g := (w.heap.size + 1)) (vs := [.int .i64 1, .string nm, .string ⟨#[]⟩, .int .i64 0, .int .i64 0]) (t := 35) List.mem_cons_self
  have o0 : w4.cell? ⟨(w.heap.size + 1), 0, none⟩ = some (.int .i64 1) := by rw [cell_at hb]; rfl
  clear hb
  go_wp2_with fail
  refine (L _).mono ?_
  rintro e _ ⟨rfl, rfl⟩
  go_wp2_with fail
  refine (M _).mono ?_
  rintro e _ ⟨rfl, rfl⟩
  rw [H5.out] at A
  clear H5
  go_wp2_with fail
  refine (xerrRd A.out.rev3).mono ?_
  rintro e w5 ⟨rfl, A1⟩
  have A := hid A1.rev3
  clear A1 o0
  by_cases her : r5.err = 0
  · have e1 : (r5.err == 0) = true := by rw [beq_iff_eq]; exact her
    have e2 : (r5.err != 0) = false := by simp [her]
    have her := hid her
    have hb := A.out.blk (g := (w.heap.size + 1)) (vs := [.int .i64 1, .string nm, .string ⟨#[]⟩, .int .i64 0, .int .i64 0]) (t := 35) List.mem_cons_self
    have o0 : w5.cell? ⟨(w.heap.size + 1), 0, none⟩ = some (.int .i64 1) := by rw [cell_at hb]; rfl
    have o1 : w5.cell? ⟨(w.heap.size + 1), 1, none⟩ = some (.string nm) := by rw [cell_at hb]; rfl
    have o2 : w5.cell? ⟨(w.heap.size + 1), 2, none⟩ = some (.string ⟨#[]⟩) := by rw [cell_at hb]; rfl
    have o3 : w5.cell? ⟨(w.heap.size + 1), 3, none⟩ = some (.int .i64 0) := by rw [cell_at hb]; rfl
    have o4 : w5.cell? ⟨(w.heap.size + 1), 4, none⟩ = some (.int .i64 0) := by rw [cell_at hb]; rfl
    clear hb
    go_wp2_with fail
    refine (rcheck_any 1 nm emp 0 0).mono ?_
    rw [Hck.out]
    rintro e w6 ⟨rfl, Bh⟩
    have A := hid (A.out.later Bh)
    clear Bh o0 o1 o2 o3 o4 e1 e2
    by_cases hc : ck = 0
    · subst hc
      rw [fail_zero] at HRR
      have hb := A.out.blk (g := (w.heap.size + 1)) (vs := [.int .i64 1, .string nm, .string ⟨#[]⟩, .int .i64 0, .int .i64 0]) (t := 35) List.mem_cons_self
      have o0 : w6.cell? ⟨(w.heap.size + 1), 0, none⟩ = some (.int .i64 1) := by rw [cell_at hb]; rfl
      have o1 : w6.cell? ⟨(w.heap.size + 1), 1, none⟩ = some (.string nm) := by rw [cell_at hb]; rfl
      have o2 : w6.cell? ⟨(w.heap.size + 1), 2, none⟩ = some (.string ⟨#[]⟩) := by rw [cell_at hb]; rfl
      have o3 : w6.cell? ⟨(w.heap.size + 1), 3, none⟩ = some (.int .i64 0) := by rw [cell_at hb]; rfl
      have o4 : w6.cell? ⟨(w.heap.size + 1), 4, none⟩ = some (.int .i64 0) := by rw [cell_at hb]; rfl
      clear hb
      have A := hid A.out.swap
      have hb := A.out.blk (g := w.heap.size) (vs := [.int .i64 0, .string ⟨#[]⟩, .string ⟨#[]⟩, .int .i64 0, .int .i64 0]) (t := 35) List.mem_cons_self
      have z0 : w6.cell? ⟨w.heap.size, 0, none⟩ = some (.int .i64 0) := by rw [cell_at hb]; rfl
      have zf0 : w6.frozen? ⟨w.heap.size, 0, none⟩ = false := free_at hb 0
      have z1 : w6.cell? ⟨w.heap.size, 1, none⟩ = some (.string ⟨#[]⟩) := by rw [cell_at hb]; rfl
      have zf1 : w6.frozen? ⟨w.heap.size, 1, none⟩ = false := free_at hb 1
      have z2 : w6.cell? ⟨w.heap.size, 2, none⟩ = some (.string ⟨#[]⟩) := by rw [cell_at hb]; rfl
      have zf2 : w6.frozen? ⟨w.heap.size, 2, none⟩ = false := free_at hb 2
      have z3 : w6.cell? ⟨w.heap.size, 3, none⟩ = some (.int .i64 0) := by rw [cell_at hb]; rfl
      have zf3 : w6.frozen? ⟨w.heap.size, 3, none⟩ = false := free_at hb 3
      have z4 : w6.cell? ⟨w.heap.size, 4, none⟩ = some (.int .i64 0) := by rw [cell_at hb]; rfl
      have zf4 : w6.frozen? ⟨w.heap.size, 4, none⟩ = false := free_at hb 4
      clear hb
      have A := hid ((((((A.out.setBlk 0 (.int .i64 1)).setBlk 1 (.string nm)).setBlk 2 (.string ⟨#[]⟩)).setBlk 3 (.int .i64 0)).setBlk 4 (.int .i64 0)))
      go_wp2
      refine bodyPost_ret (v := opV 1 nm emp 0 0) (res13 (b := w.heap.size) rfl A.out.1.2.1) rfl ?_
      have A := A.out.tail.tail
      rw [gotV, ← HRR.out, if_pos her.out]
      exact ⟨rfl, A⟩
    · have e1 : (ck == 0) = false := by rw [beq_eq_false_iff_ne]; exact hc
      have e2 : (ck != 0) = true := by simpa using hc
      have hc := hid hc
      go_wp2_with fail
      refine (xfailRd A.out.rev3 her.out ck hc.out).mono ?_
      rw [HRR.out]
      rintro e w7 ⟨rfl, A1⟩
      have A := hid A1.rev3
      clear A1
      have hR : R.err ≠ 0 := by rw [← HRR.out, Rst.fail, if_neg hc.out, her.out, keepE, if_pos rfl]; exact hc.out
      have hR := hid hR
      clear HRR her hc
      have A := hid A.out.swap
      have hb := A.out.blk (g := w.heap.size) (vs := [.int .i64 0, .string ⟨#[]⟩, .string ⟨#[]⟩, .int .i64 0, .int .i64 0]) (t := 35) List.mem_cons_self
      have z0 : w7.cell? ⟨w.heap.size, 0, none⟩ = some (.int .i64 0) := by rw [cell_at hb]; rfl
      have zf0 : w7.frozen? ⟨w.heap.size, 0, none⟩ = false := free_at hb 0
      have z1 : w7.cell? ⟨w.heap.size, 1, none⟩ = some (.string ⟨#[]⟩) := by rw [cell_at hb]; rfl
      have zf1 : w7.frozen? ⟨w.heap.size, 1, none⟩ = false := free_at hb 1
      have z2 : w7.cell? ⟨w.heap.size, 2, none⟩ = some (.string ⟨#[]⟩) := by rw [cell_at hb]; rfl
      have zf2 : w7.frozen? ⟨w.heap.size, 2, none⟩ = false := free_at hb 2
      have z3 : w7.cell? ⟨w.heap.size, 3, none⟩ = some (.int .i64 0) := by rw [cell_at hb]; rfl
      have zf3 : w7.frozen? ⟨w.heap.size, 3, none⟩ = false := free_at hb 3
      have z4 : w7.cell? ⟨w.heap.size, 4, none⟩ = some (.int .i64 0) := by rw [cell_at hb]; rfl
      have zf4 : w7.frozen? ⟨w.heap.size, 4, none⟩ = false := free_at hb 4
      clear hb
      have A := hid ((((((A.out.setBlk 0 (.int .i64 0)).setBlk 1 (.string ⟨#[]⟩)).setBlk 2 (.string ⟨#[]⟩)).setBlk 3 (.int .i64 0)).setBlk 4 (.int .i64 0)))
      go_wp2
      refine bodyPost_ret (v := opV 0 emp emp 0 0) (res13 (b := w.heap.size) rfl A.out.1.2.1) rfl ?_
      have A := A.out.tail.tail
      rw [gotV, if_neg hR.out]
      exact ⟨rfl, A⟩
  · have e1 : (r5.err == 0) = false := by rw [beq_eq_false_iff_ne]; exact her
    have e2 : (r5.err != 0) = true := by simpa using her
    have hx := A.out.rev3.xdead her ck
    rw [HRR.out] at hx
    have A := hid hx.1.rev3
    have hR := hid hx.2
    clear hx her HRR
    have A := hid A.out.swap
    have hb := A.out.blk (g := w.heap.size) (vs := [.int .i64 0, .string ⟨#[]⟩, .string ⟨#[]⟩, .int .i64 0, .int .i64 0]) (t := 35) List.mem_cons_self
    have z0 : w5.cell? ⟨w.heap.size, 0, none⟩ = some (.int .i64 0) := by rw [cell_at hb]; rfl
    have zf0 : w5.frozen? ⟨w.heap.size, 0, none⟩ = false := free_at hb 0
    have z1 : w5.cell? ⟨w.heap.size, 1, none⟩ = some (.string ⟨#[]⟩) := by rw [cell_at hb]; rfl
    have zf1 : w5.frozen? ⟨w.heap.size, 1, none⟩ = false := free_at hb 1
    have z2 : w5.cell? ⟨w.heap.size, 2, none⟩ = some (.string ⟨#[]⟩) := by rw [cell_at hb]; rfl
    have zf2 : w5.frozen? ⟨w.heap.size, 2, none⟩ = false := free_at hb 2
    have z3 : w5.cell? ⟨w.heap.size, 3, none⟩ = some (.int .i64 0) := by rw [cell_at hb]; rfl
    have zf3 : w5.frozen? ⟨w.heap.size, 3, none⟩ = false := free_at hb 3
    have z4 : w5.cell? ⟨w.heap.size, 4, none⟩ = some (.int .i64 0) := by rw [cell_at hb]; rfl
    have zf4 : w5.frozen? ⟨w.heap.size, 4, none⟩ = false := free_at hb 4
    clear hb
    have A := hid ((((((A.out.setBlk 0 (.int .i64 0)).setBlk 1 (.string ⟨#[]⟩)).setBlk 2 (.string ⟨#[]⟩)).setBlk 3 (.int .i64 0)).setBlk 4 (.int .i64 0)))
    go_wp2
    refine bodyPost_ret (v := opV 0 emp emp 0 0) (res13 (b := w.heap.size) rfl A.out.1.2.1) rfl ?_
    have A := A.out.tail.tail
    rw [gotV, if_neg hR.out]
    exact ⟨rfl, A⟩

set_option maxHeartbeats 3200000 in
set_option maxRecDepth 1000000 in
theorem xget2 {b : Nat} {v : Value} {B : List UInt8} {r : Rst} {cs : List Comp} {w : World} (h : All (xrC b v B r :: cs) w) (hp : B.length ≤ 140737488355328) (hk : r.numV 8 = 2) :
    Calls Tryz.prog 13 #[.pointer (some ⟨b, 0, none⟩)] w fun e w' => e = .returned (gotV (((r.num 8).txt 16).fail (chkA 2 (ByteArray.size ((r.num 8).txtV 16)) (ByteArray.size emp) 0 0)) 2 ((r.num 8).txtV 16) emp 0 0) ∧ All (xrC b v B (((r.num 8).txt 16).fail (chkA 2 (ByteArray.size ((r.num 8).txtV 16)) (ByteArray.size emp) 0 0)) :: cs) w' := by
  have N : ∀ W : World, Calls Tryz.prog 57 #[.int .i64 2] W fun e w' => e = .returned (.bool true) ∧ w' = W := fun W => hasName_any 2
  have L : ∀ W : World, Calls Tryz.prog 59 #[.int .i64 2] W fun e w' => e = .returned (.int .i64 (-1)) ∧ w' = W := fun W => textMost_any 2
  have M : ∀ W : World, Calls Tryz.prog 60 #[.int .i64 2] W fun e w' => e = .returned (.bool false) ∧ w' = W := fun W => hasNum_any 2
  have A0 := (h.addBlk [.int .i64 0, .string ⟨#[]⟩, .string ⟨#[]⟩, .int .i64 0, .int .i64 0] 35).addBlk [.int .i64 0, .string ⟨#[]⟩, .string ⟨#[]⟩, .int .i64 0, .int .i64 0] 35
  simp only [World.size_alloc] at A0
  have A := hid A0.rev3
  have HK := hid hk
  clear h hk A0
  generalize hnm : ((r.num 8).txtV 16) = nm
  have Hnm := hid hnm
  clear hnm
  generalize h5 : ((r.num 8).txt 16) = r5
  have H5 := hid h5
  clear h5
  generalize hck : chkA 2 (ByteArray.size nm) (ByteArray.size emp) 0 0 = ck
  have Hck := hid hck
  clear hck
  generalize hRR : r5.fail ck = R
  have HRR := hid hRR
  clear hRR
  go_enter Tryz.func13, Tryz.ntmps13
  go_wp2_with fail
  refine (xnumRd A.out hp 8).mono ?_
  rw [HK.out]
  rintro e w1 ⟨rfl, A1⟩
  have A := hid A1.rev3
  clear A1 HK
  have A := hid (show All (blkC (w.heap.size + 1) [.int .i64 0, .string ⟨#[]⟩, .string ⟨#[]⟩, .int .i64 0, .int .i64 0] 35 :: blkC w.heap.size [.int .i64 0, .string ⟨#[]⟩, .string ⟨#[]⟩, .int .i64 0, .int .i64 0] 35 :: xrC b v B (r.num 8) :: cs) w1 from A.out)
  have hb := A.out.blk (g := (w.heap.size + 1)) (vs := [.int .i64 0, .string ⟨#[]⟩, .string ⟨#[]⟩, .int .i64 0, .int .i64 0]) (t := 35) List.mem_cons_self
  have q : w1.cell? ⟨(w.heap.size + 1), 0, none⟩ = some (.int .i64 0) := by rw [cell_at hb]; rfl
  have qf : w1.frozen? ⟨(w.heap.size + 1), 0, none⟩ = false := free_at hb 0
  clear hb
  have A := hid (show All (blkC (w.heap.size + 1) [.int .i64 2, .string ⟨#[]⟩, .string ⟨#[]⟩, .int .i64 0, .int .i64 0] 35 :: blkC w.heap.size [.int .i64 0, .string ⟨#[]⟩, .string ⟨#[]⟩, .int .i64 0, .int .i64 0] 35 :: xrC b v B (r.num 8) :: cs) (w1.setCell ⟨(w.heap.size + 1), 0, none⟩ (.int .i64 2)) from A.out.setBlk 0 (.int .i64 2))
  generalize hG1 : w1.setCell ⟨(w.heap.size + 1), 0, none⟩ (.int .i64 2) = w2 at A
  have hb := A.out.blk (g := (w.heap.size + 1)) (vs := [.int .i64 2, .string ⟨#[]⟩, .string ⟨#[]⟩, .int .i64 0, .int .i64 0]) (t := 35) List.mem_cons_self
  have o0 : w2.cell? ⟨(w.heap.size + 1), 0, none⟩ = some (.int .i64 2) := by rw [cell_at hb]; rfl
  clear hb
  go_wp2_with fail
  refine (N _).mono ?_
  rintro e _ ⟨rfl, rfl⟩
  go_wp2_with fail
  refine (xtextRd A.out.rev3 hp 16).mono ?_
  rw [Hnm.out]
  rintro e w3 ⟨rfl, A1⟩
  have A := hid A1.rev3
  clear A1 o0
  have hb := A.out.blk (g := (w.heap.size + 1)) (vs := [.int .i64 2, .string ⟨#[]⟩, .string ⟨#[]⟩, .int .i64 0, .int .i64 0]) (t := 35) List.mem_cons_self
  have q : w3.cell? ⟨(w.heap.size + 1), 1, none⟩ = some (.string ⟨#[]⟩) := by rw [cell_at hb]; rfl
  have qf : w3.frozen? ⟨(w.heap.size + 1), 1, none⟩ = false := free_at hb 1
  clear hb
  have A := hid (show All (blkC (w.heap.size + 1) [.int .i64 2, .string nm, .string ⟨#[]⟩, .int .i64 0, .int .i64 0] 35 :: blkC w.heap.size [.int .i64 0, .string ⟨#[]⟩, .string ⟨#[]⟩, .int .i64 0, .int .i64 0] 35 :: xrC b v B ((r.num 8).txt 16) :: cs) (w3.setCell ⟨(w.heap.size + 1), 1, none⟩ (.string nm)) from A.out.setBlk 1 (.string nm))
  generalize hG3 : w3.setCell ⟨(w.heap.size + 1), 1, none⟩ (.string nm) = w4 at A
  have hb := A.out.blk (g := (w.heap.size + 1)) (vs := [.int .i64 2, .string nm, .string ⟨#[]⟩, .int .i64 0, .int .i64 0]) (t := 35) List.mem_cons_self
  have o0 : w4.cell? ⟨(w.heap.size + 1), 0, none⟩ = some (.int .i64 2) := by rw [cell_at hb]; rfl
  clear hb
  go_wp2_with fail
  refine (L _).mono ?_
  rintro e _ ⟨rfl, rfl⟩
  go_wp2_with fail
  refine (M _).mono ?_
  rintro e _ ⟨rfl, rfl⟩
  rw [H5.out] at A
  clear H5
  go_wp2_with fail
  refine (xerrRd A.out.rev3).mono ?_
  rintro e w5 ⟨rfl, A1⟩
  have A := hid A1.rev3
  clear A1 o0
  by_cases her : r5.err = 0
  · have e1 : (r5.err == 0) = true := by rw [beq_iff_eq]; exact her
    have e2 : (r5.err != 0) = false := by simp [her]
    have her := hid her
    have hb := A.out.blk (g := (w.heap.size + 1)) (vs := [.int .i64 2, .string nm, .string ⟨#[]⟩, .int .i64 0, .int .i64 0]) (t := 35) List.mem_cons_self
    have o0 : w5.cell? ⟨(w.heap.size + 1), 0, none⟩ = some (.int .i64 2) := by rw [cell_at hb]; rfl
    have o1 : w5.cell? ⟨(w.heap.size + 1), 1, none⟩ = some (.string nm) := by rw [cell_at hb]; rfl
    have o2 : w5.cell? ⟨(w.heap.size + 1), 2, none⟩ = some (.string ⟨#[]⟩) := by rw [cell_at hb]; rfl
    have o3 : w5.cell? ⟨(w.heap.size + 1), 3, none⟩ = some (.int .i64 0) := by rw [cell_at hb]; rfl
    have o4 : w5.cell? ⟨(w.heap.size + 1), 4, none⟩ = some (.int .i64 0) := by rw [cell_at hb]; rfl
    clear hb
    go_wp2_with fail
    refine (rcheck_any 2 nm emp 0 0).mono ?_
    rw [Hck.out]
    rintro e w6 ⟨rfl, Bh⟩
    have A := hid (A.out.later Bh)
    clear Bh o0 o1 o2 o3 o4 e1 e2
    by_cases hc : ck = 0
    · subst hc
      rw [fail_zero] at HRR
      have hb := A.out.blk (g := (w.heap.size + 1)) (vs := [.int .i64 2, .string nm, .string ⟨#[]⟩, .int .i64 0, .int .i64 0]) (t := 35) List.mem_cons_self
      have o0 : w6.cell? ⟨(w.heap.size + 1), 0, none⟩ = some (.int .i64 2) := by rw [cell_at hb]; rfl
      have o1 : w6.cell? ⟨(w.heap.size + 1), 1, none⟩ = some (.string nm) := by rw [cell_at hb]; rfl
      have o2 : w6.cell? ⟨(w.heap.size + 1), 2, none⟩ = some (.string ⟨#[]⟩) := by rw [cell_at hb]; rfl
      have o3 : w6.cell? ⟨(w.heap.size + 1), 3, none⟩ = some (.int .i64 0) := by rw [cell_at hb]; rfl
      have o4 : w6.cell? ⟨(w.heap.size + 1), 4, none⟩ = some (.int .i64 0) := by rw [cell_at hb]; rfl
      clear hb
      have A := hid A.out.swap
      have hb := A.out.blk (g := w.heap.size) (vs := [.int .i64 0, .string ⟨#[]⟩, .string ⟨#[]⟩, .int .i64 0, .int .i64 0]) (t := 35) List.mem_cons_self
      have z0 : w6.cell? ⟨w.heap.size, 0, none⟩ = some (.int .i64 0) := by rw [cell_at hb]; rfl
      have zf0 : w6.frozen? ⟨w.heap.size, 0, none⟩ = false := free_at hb 0
      have z1 : w6.cell? ⟨w.heap.size, 1, none⟩ = some (.string ⟨#[]⟩) := by rw [cell_at hb]; rfl
      have zf1 : w6.frozen? ⟨w.heap.size, 1, none⟩ = false := free_at hb 1
      have z2 : w6.cell? ⟨w.heap.size, 2, none⟩ = some (.string ⟨#[]⟩) := by rw [cell_at hb]; rfl
      have zf2 : w6.frozen? ⟨w.heap.size, 2, none⟩ = false := free_at hb 2
      have z3 : w6.cell? ⟨w.heap.size, 3, none⟩ = some (.int .i64 0) := by rw [cell_at hb]; rfl
      have zf3 : w6.frozen? ⟨w.heap.size, 3, none⟩ = false := free_at hb 3
      have z4 : w6.cell? ⟨w.heap.size, 4, none⟩ = some (.int .i64 0) := by rw [cell_at hb]; rfl
      have zf4 : w6.frozen? ⟨w.heap.size, 4, none⟩ = false := free_at hb 4
      clear hb
      have A := hid ((((((A.out.setBlk 0 (.int .i64 2)).setBlk 1 (.string nm)).setBlk 2 (.string ⟨#[]⟩)).setBlk 3 (.int .i64 0)).setBlk 4 (.int .i64 0)))
      go_wp2
      refine bodyPost_ret (v := opV 2 nm emp 0 0) (res13 (b := w.heap.size) rfl A.out.1.2.1) rfl ?_
      have A := A.out.tail.tail
      rw [gotV, ← HRR.out, if_pos her.out]
      exact ⟨rfl, A⟩
    · have e1 : (ck == 0) = false := by rw [beq_eq_false_iff_ne]; exact hc
      have e2 : (ck != 0) = true := by simpa using hc
      have hc := hid hc
      go_wp2_with fail
      refine (xfailRd A.out.rev3 her.out ck hc.out).mono ?_
      rw [HRR.out]
      rintro e w7 ⟨rfl, A1⟩
      have A := hid A1.rev3
      clear A1
      have hR : R.err ≠ 0 := by rw [← HRR.out, Rst.fail, if_neg hc.out, her.out, keepE, if_pos rfl]; exact hc.out
      have hR := hid hR
      clear HRR her hc
      have A := hid A.out.swap
      have hb := A.out.blk (g := w.heap.size) (vs := [.int .i64 0, .string ⟨#[]⟩, .string ⟨#[]⟩, .int .i64 0, .int .i64 0]) (t := 35) List.mem_cons_self
      have z0 : w7.cell? ⟨w.heap.size, 0, none⟩ = some (.int .i64 0) := by rw [cell_at hb]; rfl
      have zf0 : w7.frozen? ⟨w.heap.size, 0, none⟩ = false := free_at hb 0
      have z1 : w7.cell? ⟨w.heap.size, 1, none⟩ = some (.string ⟨#[]⟩) := by rw [cell_at hb]; rfl
      have zf1 : w7.frozen? ⟨w.heap.size, 1, none⟩ = false := free_at hb 1
      have z2 : w7.cell? ⟨w.heap.size, 2, none⟩ = some (.string ⟨#[]⟩) := by rw [cell_at hb]; rfl
      have zf2 : w7.frozen? ⟨w.heap.size, 2, none⟩ = false := free_at hb 2
      have z3 : w7.cell? ⟨w.heap.size, 3, none⟩ = some (.int .i64 0) := by rw [cell_at hb]; rfl
      have zf3 : w7.frozen? ⟨w.heap.size, 3, none⟩ = false := free_at hb 3
      have z4 : w7.cell? ⟨w.heap.size, 4, none⟩ = some (.int .i64 0) := by rw [cell_at hb]; rfl
      have zf4 : w7.frozen? ⟨w.heap.size, 4, none⟩ = false := free_at hb 4
      clear hb
      have A := hid ((((((A.out.setBlk 0 (.int .i64 0)).setBlk 1 (.string ⟨#[]⟩)).setBlk 2 (.string ⟨#[]⟩)).setBlk 3 (.int .i64 0)).setBlk 4 (.int .i64 0)))
      go_wp2
      refine bodyPost_ret (v := opV 0 emp emp 0 0) (res13 (b := w.heap.size) rfl A.out.1.2.1) rfl ?_
      have A := A.out.tail.tail
      rw [gotV, if_neg hR.out]
      exact ⟨rfl, A⟩
  · have e1 : (r5.err == 0) = false := by rw [beq_eq_false_iff_ne]; exact her
    have e2 : (r5.err != 0) = true := by simpa using her
    have hx := A.out.rev3.xdead her ck
    rw [HRR.out] at hx
    have A := hid hx.1.rev3
    have hR := hid hx.2
    clear hx her HRR
    have A := hid A.out.swap
    have hb := A.out.blk (g := w.heap.size) (vs := [.int .i64 0, .string ⟨#[]⟩, .string ⟨#[]⟩, .int .i64 0, .int .i64 0]) (t := 35) List.mem_cons_self
    have z0 : w5.cell? ⟨w.heap.size, 0, none⟩ = some (.int .i64 0) := by rw [cell_at hb]; rfl
    have zf0 : w5.frozen? ⟨w.heap.size, 0, none⟩ = false := free_at hb 0
    have z1 : w5.cell? ⟨w.heap.size, 1, none⟩ = some (.string ⟨#[]⟩) := by rw [cell_at hb]; rfl
    have zf1 : w5.frozen? ⟨w.heap.size, 1, none⟩ = false := free_at hb 1
    have z2 : w5.cell? ⟨w.heap.size, 2, none⟩ = some (.string ⟨#[]⟩) := by rw [cell_at hb]; rfl
    have zf2 : w5.frozen? ⟨w.heap.size, 2, none⟩ = false := free_at hb 2
    have z3 : w5.cell? ⟨w.heap.size, 3, none⟩ = some (.int .i64 0) := by rw [cell_at hb]; rfl
    have zf3 : w5.frozen? ⟨w.heap.size, 3, none⟩ = false := free_at hb 3
    have z4 : w5.cell? ⟨w.heap.size, 4, none⟩ = some (.int .i64 0) := by rw [cell_at hb]; rfl
    have zf4 : w5.frozen? ⟨w.heap.size, 4, none⟩ = false := free_at hb 4
    clear hb
    have A := hid ((((((A.out.setBlk 0 (.int .i64 0)).setBlk 1 (.string ⟨#[]⟩)).setBlk 2 (.string ⟨#[]⟩)).setBlk 3 (.int .i64 0)).setBlk 4 (.int .i64 0)))
    go_wp2
    refine bodyPost_ret (v := opV 0 emp emp 0 0) (res13 (b := w.heap.size) rfl A.out.1.2.1) rfl ?_
    have A := A.out.tail.tail
    rw [gotV, if_neg hR.out]
    exact ⟨rfl, A⟩

set_option maxHeartbeats 3200000 in
set_option maxRecDepth 1000000 in
theorem xget3 {b : Nat} {v : Value} {B : List UInt8} {r : Rst} {cs : List Comp} {w : World} (h : All (xrC b v B r :: cs) w) (hp : B.length ≤ 140737488355328) (hk : r.numV 8 = 3) :
    Calls Tryz.prog 13 #[.pointer (some ⟨b, 0, none⟩)] w fun e w' => e = .returned (gotV ((((r.num 8).txt 16).txt 64).fail (chkA 3 (ByteArray.size ((r.num 8).txtV 16)) (ByteArray.size (((r.num 8).txt 16).txtV 64)) 0 0)) 3 ((r.num 8).txtV 16) (((r.num 8).txt 16).txtV 64) 0 0) ∧ All (xrC b v B ((((r.num 8).txt 16).txt 64).fail (chkA 3 (ByteArray.size ((r.num 8).txtV 16)) (ByteArray.size (((r.num 8).txt 16).txtV 64)) 0 0)) :: cs) w' := by
  have N : ∀ W : World, Calls Tryz.prog 57 #[.int .i64 3] W fun e w' => e = .returned (.bool true) ∧ w' = W := fun W => hasName_any 3
  have L : ∀ W : World, Calls Tryz.prog 59 #[.int .i64 3] W fun e w' => e = .returned (.int .i64 (64)) ∧ w' = W := fun W => textMost_any 3
  have M : ∀ W : World, Calls Tryz.prog 60 #[.int .i64 3] W fun e w' => e = .returned (.bool false) ∧ w' = W := fun W => hasNum_any 3
  have A0 := (h.addBlk [.int .i64 0, .string ⟨#[]⟩, .string ⟨#[]⟩, .int .i64 0, .int .i64 0] 35).addBlk [.int .i64 0, .string ⟨#[]⟩, .string ⟨#[]⟩, .int .i64 0, .int .i64 0] 35
  simp only [World.size_alloc] at A0
  have A := hid A0.rev3
  have HK := hid hk
  clear h hk A0
  generalize hnm : ((r.num 8).txtV 16) = nm
  have Hnm := hid hnm
  clear hnm
  generalize htx : (((r.num 8).txt 16).txtV 64) = tx
  have Htx := hid htx
  clear htx
  generalize h5 : (((r.num 8).txt 16).txt 64) = r5
  have H5 := hid h5
  clear h5
  generalize hck : chkA 3 (ByteArray.size nm) (ByteArray.size tx) 0 0 = ck
  have Hck := hid hck
  clear hck
  generalize hRR : r5.fail ck = R
  have HRR := hid hRR
  clear hRR
  go_enter Tryz.func13, Tryz.ntmps13
  go_wp2_with fail
  refine (xnumRd A.out hp 8).mono ?_
  rw [HK.out]
  rintro e w1 ⟨rfl, A1⟩
  have A := hid A1.rev3
  clear A1 HK
  have A := hid (show All (blkC (w.heap.size + 1) [.int .i64 0, .string ⟨#[]⟩, .string ⟨#[]⟩, .int .i64 0, .int .i64 0] 35 :: blkC w.heap.size [.int .i64 0, .string ⟨#[]⟩, .string ⟨#[]⟩, .int .i64 0, .int .i64 0] 35 :: xrC b v B (r.num 8) :: cs) w1 from A.out)
  have hb := A.out.blk (g := (w.heap.size + 1)) (vs := [.int .i64 0, .string ⟨#[]⟩, .string ⟨#[]⟩, .int .i64 0, .int .i64 0]) (t := 35) List.mem_cons_self
  have q : w1.cell? ⟨(w.heap.size + 1), 0, none⟩ = some (.int .i64 0) := by rw [cell_at hb]; rfl
  have qf : w1.frozen? ⟨(w.heap.size + 1), 0, none⟩ = false := free_at hb 0
  clear hb
  have A := hid (show All (blkC (w.heap.size + 1) [.int .i64 3, .string ⟨#[]⟩, .string ⟨#[]⟩, .int .i64 0, .int .i64 0] 35 :: blkC w.heap.size [.int .i64 0, .string ⟨#[]⟩, .string ⟨#[]⟩, .int .i64 0, .int .i64 0] 35 :: xrC b v B (r.num 8) :: cs) (w1.setCell ⟨(w.heap.size + 1), 0, none⟩ (.int .i64 3)) from A.out.setBlk 0 (.int .i64 3))
  generalize hG1 : w1.setCell ⟨(w.heap.size + 1), 0, none⟩ (.int .i64 3) = w2 at A
  have hb := A.out.blk (g := (w.heap.size + 1)) (vs := [.int .i64 3, .string ⟨#[]⟩, .string ⟨#[]⟩, .int .i64 0, .int .i64 0]) (t := 35) List.mem_cons_self
  have o0 : w2.cell? ⟨(w.heap.size + 1), 0, none⟩ = some (.int .i64 3) := by rw [cell_at hb]; rfl
  clear hb
  go_wp2_with fail
  refine (N _).mono ?_
  rintro e _ ⟨rfl, rfl⟩
  go_wp2_with fail
  refine (xtextRd A.out.rev3 hp 16).mono ?_
  rw [Hnm.out]
  rintro e w3 ⟨rfl, A1⟩
  have A := hid A1.rev3
  clear A1 o0
  have hb := A.out.blk (g := (w.heap.size + 1)) (vs := [.int .i64 3, .string ⟨#[]⟩, .string ⟨#[]⟩, .int .i64 0, .int .i64 0]) (t := 35) List.mem_cons_self
  have q : w3.cell? ⟨(w.heap.size + 1), 1, none⟩ = some (.string ⟨#[]⟩) := by rw [cell_at hb]; rfl
  have qf : w3.frozen? ⟨(w.heap.size + 1), 1, none⟩ = false := free_at hb 1
  clear hb
  have A := hid (show All (blkC (w.heap.size + 1) [.int .i64 3, .string nm, .string ⟨#[]⟩, .int .i64 0, .int .i64 0] 35 :: blkC w.heap.size [.int .i64 0, .string ⟨#[]⟩, .string ⟨#[]⟩, .int .i64 0, .int .i64 0] 35 :: xrC b v B ((r.num 8).txt 16) :: cs) (w3.setCell ⟨(w.heap.size + 1), 1, none⟩ (.string nm)) from A.out.setBlk 1 (.string nm))
  generalize hG3 : w3.setCell ⟨(w.heap.size + 1), 1, none⟩ (.string nm) = w4 at A
  have hb := A.out.blk (g := (w.heap.size + 1)) (vs := [.int .i64 3, .string nm, .string ⟨#[]⟩, .int .i64 0, .int .i64 0]) (t := 35) List.mem_cons_self
  have o0 : w4.cell? ⟨(w.heap.size + 1), 0, none⟩ = some (.int .i64 3) := by rw [cell_at hb]; rfl
  clear hb
  go_wp2_with fail
  refine (L _).mono ?_
  rintro e _ ⟨rfl, rfl⟩
  go_wp2_with fail
  refine (L _).mono ?_
  rintro e _ ⟨rfl, rfl⟩
  go_wp2_with fail
  refine (xtextRd A.out.rev3 hp 64).mono ?_
  rw [Htx.out]
  rintro e w5 ⟨rfl, A1⟩
  have A := hid A1.rev3
  clear A1 o0
  have hb := A.out.blk (g := (w.heap.size + 1)) (vs := [.int .i64 3, .string nm, .string ⟨#[]⟩, .int .i64 0, .int .i64 0]) (t := 35) List.mem_cons_self
  have q : w5.cell? ⟨(w.heap.size + 1), 2, none⟩ = some (.string ⟨#[]⟩) := by rw [cell_at hb]; rfl
  have qf : w5.frozen? ⟨(w.heap.size + 1), 2, none⟩ = false := free_at hb 2
  clear hb
  have A := hid (show All (blkC (w.heap.size + 1) [.int .i64 3, .string nm, .string tx, .int .i64 0, .int .i64 0] 35 :: blkC w.heap.size [.int .i64 0, .string ⟨#[]⟩, .string ⟨#[]⟩, .int .i64 0, .int .i64 0] 35 :: xrC b v B (((r.num 8).txt 16).txt 64) :: cs) (w5.setCell ⟨(w.heap.size + 1), 2, none⟩ (.string tx)) from A.out.setBlk 2 (.string tx))
  generalize hG5 : w5.setCell ⟨(w.heap.size + 1), 2, none⟩ (.string tx) = w6 at A
  have hb := A.out.blk (g := (w.heap.size + 1)) (vs := [.int .i64 3, .string nm, .string tx, .int .i64 0, .int .i64 0]) (t := 35) List.mem_cons_self
  have o0 : w6.cell? ⟨(w.heap.size + 1), 0, none⟩ = some (.int .i64 3) := by rw [cell_at hb]; rfl
  clear hb
  go_wp2_with fail
  refine (M _).mono ?_
  rintro e _ ⟨rfl, rfl⟩
  rw [H5.out] at A
  clear H5
  go_wp2_with fail
  refine (xerrRd A.out.rev3).mono ?_
  rintro e w7 ⟨rfl, A1⟩
  have A := hid A1.rev3
  clear A1 o0
  by_cases her : r5.err = 0
  · have e1 : (r5.err == 0) = true := by rw [beq_iff_eq]; exact her
    have e2 : (r5.err != 0) = false := by simp [her]
    have her := hid her
    have hb := A.out.blk (g := (w.heap.size + 1)) (vs := [.int .i64 3, .string nm, .string tx, .int .i64 0, .int .i64 0]) (t := 35) List.mem_cons_self
    have o0 : w7.cell? ⟨(w.heap.size + 1), 0, none⟩ = some (.int .i64 3) := by rw [cell_at hb]; rfl
    have o1 : w7.cell? ⟨(w.heap.size + 1), 1, none⟩ = some (.string nm) := by rw [cell_at hb]; rfl
    have o2 : w7.cell? ⟨(w.heap.size + 1), 2, none⟩ = some (.string tx) := by rw [cell_at hb]; rfl
    have o3 : w7.cell? ⟨(w.heap.size + 1), 3, none⟩ = some (.int .i64 0) := by rw [cell_at hb]; rfl
    have o4 : w7.cell? ⟨(w.heap.size + 1), 4, none⟩ = some (.int .i64 0) := by rw [cell_at hb]; rfl
    clear hb
    go_wp2_with fail
    refine (rcheck_any 3 nm tx 0 0).mono ?_
    rw [Hck.out]
    rintro e w8 ⟨rfl, Bh⟩
    have A := hid (A.out.later Bh)
    clear Bh o0 o1 o2 o3 o4 e1 e2
    by_cases hc : ck = 0
    · subst hc
      rw [fail_zero] at HRR
      have hb := A.out.blk (g := (w.heap.size + 1)) (vs := [.int .i64 3, .string nm, .string tx, .int .i64 0, .int .i64 0]) (t := 35) List.mem_cons_self
      have o0 : w8.cell? ⟨(w.heap.size + 1), 0, none⟩ = some (.int .i64 3) := by rw [cell_at hb]; rfl
      have o1 : w8.cell? ⟨(w.heap.size + 1), 1, none⟩ = some (.string nm) := by rw [cell_at hb]; rfl
      have o2 : w8.cell? ⟨(w.heap.size + 1), 2, none⟩ = some (.string tx) := by rw [cell_at hb]; rfl
      have o3 : w8.cell? ⟨(w.heap.size + 1), 3, none⟩ = some (.int .i64 0) := by rw [cell_at hb]; rfl
      have o4 : w8.cell? ⟨(w.heap.size + 1), 4, none⟩ = some (.int .i64 0) := by rw [cell_at hb]; rfl
      clear hb
      have A := hid A.out.swap
      have hb := A.out.blk (g := w.heap.size) (vs := [.int .i64 0, .string ⟨#[]⟩, .string ⟨#[]⟩, .int .i64 0, .int .i64 0]) (t := 35) List.mem_cons_self
      have z0 : w8.cell? ⟨w.heap.size, 0, none⟩ = some (.int .i64 0) := by rw [cell_at hb]; rfl
      have zf0 : w8.frozen? ⟨w.heap.size, 0, none⟩ = false := free_at hb 0
      have z1 : w8.cell? ⟨w.heap.size, 1, none⟩ = some (.string ⟨#[]⟩) := by rw [cell_at hb]; rfl
      have zf1 : w8.frozen? ⟨w.heap.size, 1, none⟩ = false := free_at hb 1
      have z2 : w8.cell? ⟨w.heap.size, 2, none⟩ = some (.string ⟨#[]⟩) := by rw [cell_at hb]; rfl
      have zf2 : w8.frozen? ⟨w.heap.size, 2, none⟩ = false := free_at hb 2
      have z3 : w8.cell? ⟨w.heap.size, 3, none⟩ = some (.int .i64 0) := by rw [cell_at hb]; rfl
      have zf3 : w8.frozen? ⟨w.heap.size, 3, none⟩ = false := free_at hb 3
      have z4 : w8.cell? ⟨w.heap.size, 4, none⟩ = some (.int .i64 0) := by rw [cell_at hb]; rfl
      have zf4 : w8.frozen? ⟨w.heap.size, 4, none⟩ = false := free_at hb 4
      clear hb
      have A := hid ((((((A.out.setBlk 0 (.int .i64 3)).setBlk 1 (.string nm)).setBlk 2 (.string tx)).setBlk 3 (.int .i64 0)).setBlk 4 (.int .i64 0)))
      go_wp2
      refine bodyPost_ret (v := opV 3 nm tx 0 0) (res13 (b := w.heap.size) rfl A.out.1.2.1) rfl ?_
      have A := A.out.tail.tail
      rw [gotV, ← HRR.out, if_pos her.out]
      exact ⟨rfl, A⟩
    · have e1 : (ck == 0) = false := by rw [beq_eq_false_iff_ne]; exact hc
      have e2 : (ck != 0) = true := by simpa using hc
      have hc := hid hc
      go_wp2_with fail
      refine (xfailRd A.out.rev3 her.out ck hc.out).mono ?_
      rw [HRR.out]
      rintro e w9 ⟨rfl, A1⟩
      have A := hid A1.rev3
      clear A1
      have hR : R.err ≠ 0 := by rw [← HRR.out, Rst.fail, if_neg hc.out, her.out, keepE, if_pos rfl]; exact hc.out
      have hR := hid hR
      clear HRR her hc
      have A := hid A.out.swap
      have hb := A.out.blk (g := w.heap.size) (vs := [.int .i64 0, .string ⟨#[]⟩, .string ⟨#[]⟩, .int .i64 0, .int .i64 0]) (t := 35) List.mem_cons_self
      have z0 : w9.cell? ⟨w.heap.size, 0, none⟩ = some (.int .i64 0) := by rw [cell_at hb]; rfl
      have zf0 : w9.frozen? ⟨w.heap.size, 0, none⟩ = false := free_at hb 0
      have z1 : w9.cell? ⟨w.heap.size, 1, none⟩ = some (.string ⟨#[]⟩) := by rw [cell_at hb]; rfl
      have zf1 : w9.frozen? ⟨w.heap.size, 1, none⟩ = false := free_at hb 1
      have z2 : w9.cell? ⟨w.heap.size, 2, none⟩ = some (.string ⟨#[]⟩) := by rw [cell_at hb]; rfl
      have zf2 : w9.frozen? ⟨w.heap.size, 2, none⟩ = false := free_at hb 2
      have z3 : w9.cell? ⟨w.heap.size, 3, none⟩ = some (.int .i64 0) := by rw [cell_at hb]; rfl
      have zf3 : w9.frozen? ⟨w.heap.size, 3, none⟩ = false := free_at hb 3
      have z4 : w9.cell? ⟨w.heap.size, 4, none⟩ = some (.int .i64 0) := by rw [cell_at hb]; rfl
      have zf4 : w9.frozen? ⟨w.heap.size, 4, none⟩ = false := free_at hb 4
      clear hb
      have A := hid ((((((A.out.setBlk 0 (.int .i64 0)).setBlk 1 (.string ⟨#[]⟩)).setBlk 2 (.string ⟨#[]⟩)).setBlk 3 (.int .i64 0)).setBlk 4 (.int .i64 0)))
      go_wp2
      refine bodyPost_ret (v := opV 0 emp emp 0 0) (res13 (b := w.heap.size) rfl A.out.1.2.1) rfl ?_
      have A := A.out.tail.tail
      rw [gotV, if_neg hR.out]
      exact ⟨rfl, A⟩
  · have e1 : (r5.err == 0) = false := by rw [beq_eq_false_iff_ne]; exact her
    have e2 : (r5.err != 0) = true := by simpa using her
    have hx := A.out.rev3.xdead her ck
    rw [HRR.out] at hx
    have A := hid hx.1.rev3
    have hR := hid hx.2
    clear hx her HRR
    have A := hid A.out.swap
    have hb := A.out.blk (g := w.heap.size) (vs := [.int .i64 0, .string ⟨#[]⟩, .string ⟨#[]⟩, .int .i64 0, .int .i64 0]) (t := 35) List.mem_cons_self
    have z0 : w7.cell? ⟨w.heap.size, 0, none⟩ = some (.int .i64 0) := by rw [cell_at hb]; rfl
    have zf0 : w7.frozen? ⟨w.heap.size, 0, none⟩ = false := free_at hb 0
    have z1 : w7.cell? ⟨w.heap.size, 1, none⟩ = some (.string ⟨#[]⟩) := by rw [cell_at hb]; rfl
    have zf1 : w7.frozen? ⟨w.heap.size, 1, none⟩ = false := free_at hb 1
    have z2 : w7.cell? ⟨w.heap.size, 2, none⟩ = some (.string ⟨#[]⟩) := by rw [cell_at hb]; rfl
    have zf2 : w7.frozen? ⟨w.heap.size, 2, none⟩ = false := free_at hb 2
    have z3 : w7.cell? ⟨w.heap.size, 3, none⟩ = some (.int .i64 0) := by rw [cell_at hb]; rfl
    have zf3 : w7.frozen? ⟨w.heap.size, 3, none⟩ = false := free_at hb 3
    have z4 : w7.cell? ⟨w.heap.size, 4, none⟩ = some (.int .i64 0) := by rw [cell_at hb]; rfl
    have zf4 : w7.frozen? ⟨w.heap.size, 4, none⟩ = false := free_at hb 4
    clear hb
    have A := hid ((((((A.out.setBlk 0 (.int .i64 0)).setBlk 1 (.string ⟨#[]⟩)).setBlk 2 (.string ⟨#[]⟩)).setBlk 3 (.int .i64 0)).setBlk 4 (.int .i64 0)))
    go_wp2
    refine bodyPost_ret (v := opV 0 emp emp 0 0) (res13 (b := w.heap.size) rfl A.out.1.2.1) rfl ?_
    have A := A.out.tail.tail
    rw [gotV, if_neg hR.out]
    exact ⟨rfl, A⟩

set_option maxHeartbeats 3200000 in
set_option maxRecDepth 1000000 in
theorem xget4 {b : Nat} {v : Value} {B : List UInt8} {r : Rst} {cs : List Comp} {w : World} (h : All (xrC b v B r :: cs) w) (hp : B.length ≤ 140737488355328) (hk : r.numV 8 = 4) :
    Calls Tryz.prog 13 #[.pointer (some ⟨b, 0, none⟩)] w fun e w' => e = .returned (gotV ((((r.num 8).txt 16).num 1099511627776).fail (chkA 4 (ByteArray.size ((r.num 8).txtV 16)) (ByteArray.size emp) (((r.num 8).txt 16).numV 1099511627776) 0)) 4 ((r.num 8).txtV 16) emp (((r.num 8).txt 16).numV 1099511627776) 0) ∧ All (xrC b v B ((((r.num 8).txt 16).num 1099511627776).fail (chkA 4 (ByteArray.size ((r.num 8).txtV 16)) (ByteArray.size emp) (((r.num 8).txt 16).numV 1099511627776) 0)) :: cs) w' := by
  have N : ∀ W : World, Calls Tryz.prog 57 #[.int .i64 4] W fun e w' => e = .returned (.bool true) ∧ w' = W := fun W => hasName_any 4
  have L : ∀ W : World, Calls Tryz.prog 59 #[.int .i64 4] W fun e w' => e = .returned (.int .i64 (-1)) ∧ w' = W := fun W => textMost_any 4
  have M : ∀ W : World, Calls Tryz.prog 60 #[.int .i64 4] W fun e w' => e = .returned (.bool true) ∧ w' = W := fun W => hasNum_any 4
  have A0 := (h.addBlk [.int .i64 0, .string ⟨#[]⟩, .string ⟨#[]⟩, .int .i64 0, .int .i64 0] 35).addBlk [.int .i64 0, .string ⟨#[]⟩, .string ⟨#[]⟩, .int .i64 0, .int .i64 0] 35
  simp only [World.size_alloc] at A0
  have A := hid A0.rev3
  have HK := hid hk
  clear h hk A0
  generalize hnm : ((r.num 8).txtV 16) = nm
  have Hnm := hid hnm
  clear hnm
  generalize hn : (((r.num 8).txt 16).numV 1099511627776) = n
  have Hn := hid hn
  clear hn
  generalize h5 : (((r.num 8).txt 16).num 1099511627776) = r5
  have H5 := hid h5
  clear h5
  generalize hck : chkA 4 (ByteArray.size nm) (ByteArray.size emp) n 0 = ck
  have Hck := hid hck
  clear hck
  generalize hRR : r5.fail ck = R
  have HRR := hid hRR
  clear hRR
  go_enter Tryz.func13, Tryz.ntmps13
  go_wp2_with fail
  refine (xnumRd A.out hp 8).mono ?_
  rw [HK.out]
  rintro e w1 ⟨rfl, A1⟩
  have A := hid A1.rev3
  clear A1 HK
  have A := hid (show All (blkC (w.heap.size + 1) [.int .i64 0, .string ⟨#[]⟩, .string ⟨#[]⟩, .int .i64 0, .int .i64 0] 35 :: blkC w.heap.size [.int .i64 0, .string ⟨#[]⟩, .string ⟨#[]⟩, .int .i64 0, .int .i64 0] 35 :: xrC b v B (r.num 8) :: cs) w1 from A.out)
  have hb := A.out.blk (g := (w.heap.size + 1)) (vs := [.int .i64 0, .string ⟨#[]⟩, .string ⟨#[]⟩, .int .i64 0, .int .i64 0]) (t := 35) List.mem_cons_self
  have q : w1.cell? ⟨(w.heap.size + 1), 0, none⟩ = some (.int .i64 0) := by rw [cell_at hb]; rfl
  have qf : w1.frozen? ⟨(w.heap.size + 1), 0, none⟩ = false := free_at hb 0
  clear hb
  have A := hid (show All (blkC (w.heap.size + 1) [.int .i64 4, .string ⟨#[]⟩, .string ⟨#[]⟩, .int .i64 0, .int .i64 0] 35 :: blkC w.heap.size [.int .i64 0, .string ⟨#[]⟩, .string ⟨#[]⟩, .int .i64 0, .int .i64 0] 35 :: xrC b v B (r.num 8) :: cs) (w1.setCell ⟨(w.heap.size + 1), 0, none⟩ (.int .i64 4)) from A.out.setBlk 0 (.int .i64 4))
  generalize hG1 : w1.setCell ⟨(w.heap.size + 1), 0, none⟩ (.int .i64 4) = w2 at A
  have hb := A.out.blk (g := (w.heap.size + 1)) (vs := [.int .i64 4, .string ⟨#[]⟩, .string ⟨#[]⟩, .int .i64 0, .int .i64 0]) (t := 35) List.mem_cons_self
  have o0 : w2.cell? ⟨(w.heap.size + 1), 0, none⟩ = some (.int .i64 4) := by rw [cell_at hb]; rfl
  clear hb
  go_wp2_with fail
  refine (N _).mono ?_
  rintro e _ ⟨rfl, rfl⟩
  go_wp2_with fail
  refine (xtextRd A.out.rev3 hp 16).mono ?_
  rw [Hnm.out]
  rintro e w3 ⟨rfl, A1⟩
  have A := hid A1.rev3
  clear A1 o0
  have hb := A.out.blk (g := (w.heap.size + 1)) (vs := [.int .i64 4, .string ⟨#[]⟩, .string ⟨#[]⟩, .int .i64 0, .int .i64 0]) (t := 35) List.mem_cons_self
  have q : w3.cell? ⟨(w.heap.size + 1), 1, none⟩ = some (.string ⟨#[]⟩) := by rw [cell_at hb]; rfl
  have qf : w3.frozen? ⟨(w.heap.size + 1), 1, none⟩ = false := free_at hb 1
  clear hb
  have A := hid (show All (blkC (w.heap.size + 1) [.int .i64 4, .string nm, .string ⟨#[]⟩, .int .i64 0, .int .i64 0] 35 :: blkC w.heap.size [.int .i64 0, .string ⟨#[]⟩, .string ⟨#[]⟩, .int .i64 0, .int .i64 0] 35 :: xrC b v B ((r.num 8).txt 16) :: cs) (w3.setCell ⟨(w.heap.size + 1), 1, none⟩ (.string nm)) from A.out.setBlk 1 (.string nm))
  generalize hG3 : w3.setCell ⟨(w.heap.size + 1), 1, none⟩ (.string nm) = w4 at A
  have hb := A.out.blk (g := (w.heap.size + 1)) (vs := [.int .i64 4, .string nm, .string ⟨#[]⟩, .int .i64 0, .int .i64 0]) (t := 35) List.mem_cons_self
  have o0 : w4.cell? ⟨(w.heap.size + 1), 0, none⟩ = some (.int .i64 4) := by rw [cell_at hb]; rfl
  clear hb
  go_wp2_with fail
  refine (L _).mono ?_
  rintro e _ ⟨rfl, rfl⟩
  go_wp2_with fail
  refine (M _).mono ?_
  rintro e _ ⟨rfl, rfl⟩
  go_wp2_with fail
  refine (xnumRd A.out.rev3 hp 1099511627776).mono ?_
  rw [Hn.out]
  rintro e w5 ⟨rfl, A1⟩
  have A := hid A1.rev3
  clear A1 o0
  have hb := A.out.blk (g := (w.heap.size + 1)) (vs := [.int .i64 4, .string nm, .string ⟨#[]⟩, .int .i64 0, .int .i64 0]) (t := 35) List.mem_cons_self
  have q : w5.cell? ⟨(w.heap.size + 1), 3, none⟩ = some (.int .i64 0) := by rw [cell_at hb]; rfl
  have qf : w5.frozen? ⟨(w.heap.size + 1), 3, none⟩ = false := free_at hb 3
  clear hb
  have A := hid (show All (blkC (w.heap.size + 1) [.int .i64 4, .string nm, .string ⟨#[]⟩, .int .i64 n, .int .i64 0] 35 :: blkC w.heap.size [.int .i64 0, .string ⟨#[]⟩, .string ⟨#[]⟩, .int .i64 0, .int .i64 0] 35 :: xrC b v B (((r.num 8).txt 16).num 1099511627776) :: cs) (w5.setCell ⟨(w.heap.size + 1), 3, none⟩ (.int .i64 n)) from A.out.setBlk 3 (.int .i64 n))
  generalize hG5 : w5.setCell ⟨(w.heap.size + 1), 3, none⟩ (.int .i64 n) = w6 at A
  have hb := A.out.blk (g := (w.heap.size + 1)) (vs := [.int .i64 4, .string nm, .string ⟨#[]⟩, .int .i64 n, .int .i64 0]) (t := 35) List.mem_cons_self
  have o0 : w6.cell? ⟨(w.heap.size + 1), 0, none⟩ = some (.int .i64 4) := by rw [cell_at hb]; rfl
  clear hb
  rw [H5.out] at A
  clear H5
  go_wp2_with fail
  refine (xerrRd A.out.rev3).mono ?_
  rintro e w7 ⟨rfl, A1⟩
  have A := hid A1.rev3
  clear A1 o0
  by_cases her : r5.err = 0
  · have e1 : (r5.err == 0) = true := by rw [beq_iff_eq]; exact her
    have e2 : (r5.err != 0) = false := by simp [her]
    have her := hid her
    have hb := A.out.blk (g := (w.heap.size + 1)) (vs := [.int .i64 4, .string nm, .string ⟨#[]⟩, .int .i64 n, .int .i64 0]) (t := 35) List.mem_cons_self
    have o0 : w7.cell? ⟨(w.heap.size + 1), 0, none⟩ = some (.int .i64 4) := by rw [cell_at hb]; rfl
    have o1 : w7.cell? ⟨(w.heap.size + 1), 1, none⟩ = some (.string nm) := by rw [cell_at hb]; rfl
    have o2 : w7.cell? ⟨(w.heap.size + 1), 2, none⟩ = some (.string ⟨#[]⟩) := by rw [cell_at hb]; rfl
    have o3 : w7.cell? ⟨(w.heap.size + 1), 3, none⟩ = some (.int .i64 n) := by rw [cell_at hb]; rfl
    have o4 : w7.cell? ⟨(w.heap.size + 1), 4, none⟩ = some (.int .i64 0) := by rw [cell_at hb]; rfl
    clear hb
    go_wp2_with fail
    refine (rcheck_any 4 nm emp n 0).mono ?_
    rw [Hck.out]
    rintro e w8 ⟨rfl, Bh⟩
    have A := hid (A.out.later Bh)
    clear Bh o0 o1 o2 o3 o4 e1 e2
    by_cases hc : ck = 0
    · subst hc
      rw [fail_zero] at HRR
      have hb := A.out.blk (g := (w.heap.size + 1)) (vs := [.int .i64 4, .string nm, .string ⟨#[]⟩, .int .i64 n, .int .i64 0]) (t := 35) List.mem_cons_self
      have o0 : w8.cell? ⟨(w.heap.size + 1), 0, none⟩ = some (.int .i64 4) := by rw [cell_at hb]; rfl
      have o1 : w8.cell? ⟨(w.heap.size + 1), 1, none⟩ = some (.string nm) := by rw [cell_at hb]; rfl
      have o2 : w8.cell? ⟨(w.heap.size + 1), 2, none⟩ = some (.string ⟨#[]⟩) := by rw [cell_at hb]; rfl
      have o3 : w8.cell? ⟨(w.heap.size + 1), 3, none⟩ = some (.int .i64 n) := by rw [cell_at hb]; rfl
      have o4 : w8.cell? ⟨(w.heap.size + 1), 4, none⟩ = some (.int .i64 0) := by rw [cell_at hb]; rfl
      clear hb
      have A := hid A.out.swap
      have hb := A.out.blk (g := w.heap.size) (vs := [.int .i64 0, .string ⟨#[]⟩, .string ⟨#[]⟩, .int .i64 0, .int .i64 0]) (t := 35) List.mem_cons_self
      have z0 : w8.cell? ⟨w.heap.size, 0, none⟩ = some (.int .i64 0) := by rw [cell_at hb]; rfl
      have zf0 : w8.frozen? ⟨w.heap.size, 0, none⟩ = false := free_at hb 0
      have z1 : w8.cell? ⟨w.heap.size, 1, none⟩ = some (.string ⟨#[]⟩) := by rw [cell_at hb]; rfl
      have zf1 : w8.frozen? ⟨w.heap.size, 1, none⟩ = false := free_at hb 1
      have z2 : w8.cell? ⟨w.heap.size, 2, none⟩ = some (.string ⟨#[]⟩) := by rw [cell_at hb]; rfl
      have zf2 : w8.frozen? ⟨w.heap.size, 2, none⟩ = false := free_at hb 2
      have z3 : w8.cell? ⟨w.heap.size, 3, none⟩ = some (.int .i64 0) := by rw [cell_at hb]; rfl
      have zf3 : w8.frozen? ⟨w.heap.size, 3, none⟩ = false := free_at hb 3
      have z4 : w8.cell? ⟨w.heap.size, 4, none⟩ = some (.int .i64 0) := by rw [cell_at hb]; rfl
      have zf4 : w8.frozen? ⟨w.heap.size, 4, none⟩ = false := free_at hb 4
      clear hb
      have A := hid ((((((A.out.setBlk 0 (.int .i64 4)).setBlk 1 (.string nm)).setBlk 2 (.string ⟨#[]⟩)).setBlk 3 (.int .i64 n)).setBlk 4 (.int .i64 0)))
      go_wp2
      refine bodyPost_ret (v := opV 4 nm emp n 0) (res13 (b := w.heap.size) rfl A.out.1.2.1) rfl ?_
      have A := A.out.tail.tail
      rw [gotV, ← HRR.out, if_pos her.out]
      exact ⟨rfl, A⟩
    · have e1 : (ck == 0) = false := by rw [beq_eq_false_iff_ne]; exact hc
      have e2 : (ck != 0) = true := by simpa using hc
      have hc := hid hc
      go_wp2_with fail
      refine (xfailRd A.out.rev3 her.out ck hc.out).mono ?_
      rw [HRR.out]
      rintro e w9 ⟨rfl, A1⟩
      have A := hid A1.rev3
      clear A1
      have hR : R.err ≠ 0 := by rw [← HRR.out, Rst.fail, if_neg hc.out, her.out, keepE, if_pos rfl]; exact hc.out
      have hR := hid hR
      clear HRR her hc
      have A := hid A.out.swap
      have hb := A.out.blk (g := w.heap.size) (vs := [.int .i64 0, .string ⟨#[]⟩, .string ⟨#[]⟩, .int .i64 0, .int .i64 0]) (t := 35) List.mem_cons_self
      have z0 : w9.cell? ⟨w.heap.size, 0, none⟩ = some (.int .i64 0) := by rw [cell_at hb]; rfl
      have zf0 : w9.frozen? ⟨w.heap.size, 0, none⟩ = false := free_at hb 0
      have z1 : w9.cell? ⟨w.heap.size, 1, none⟩ = some (.string ⟨#[]⟩) := by rw [cell_at hb]; rfl
      have zf1 : w9.frozen? ⟨w.heap.size, 1, none⟩ = false := free_at hb 1
      have z2 : w9.cell? ⟨w.heap.size, 2, none⟩ = some (.string ⟨#[]⟩) := by rw [cell_at hb]; rfl
      have zf2 : w9.frozen? ⟨w.heap.size, 2, none⟩ = false := free_at hb 2
      have z3 : w9.cell? ⟨w.heap.size, 3, none⟩ = some (.int .i64 0) := by rw [cell_at hb]; rfl
      have zf3 : w9.frozen? ⟨w.heap.size, 3, none⟩ = false := free_at hb 3
      have z4 : w9.cell? ⟨w.heap.size, 4, none⟩ = some (.int .i64 0) := by rw [cell_at hb]; rfl
      have zf4 : w9.frozen? ⟨w.heap.size, 4, none⟩ = false := free_at hb 4
      clear hb
      have A := hid ((((((A.out.setBlk 0 (.int .i64 0)).setBlk 1 (.string ⟨#[]⟩)).setBlk 2 (.string ⟨#[]⟩)).setBlk 3 (.int .i64 0)).setBlk 4 (.int .i64 0)))
      go_wp2
      refine bodyPost_ret (v := opV 0 emp emp 0 0) (res13 (b := w.heap.size) rfl A.out.1.2.1) rfl ?_
      have A := A.out.tail.tail
      rw [gotV, if_neg hR.out]
      exact ⟨rfl, A⟩
  · have e1 : (r5.err == 0) = false := by rw [beq_eq_false_iff_ne]; exact her
    have e2 : (r5.err != 0) = true := by simpa using her
    have hx := A.out.rev3.xdead her ck
    rw [HRR.out] at hx
    have A := hid hx.1.rev3
    have hR := hid hx.2
    clear hx her HRR
    have A := hid A.out.swap
    have hb := A.out.blk (g := w.heap.size) (vs := [.int .i64 0, .string ⟨#[]⟩, .string ⟨#[]⟩, .int .i64 0, .int .i64 0]) (t := 35) List.mem_cons_self
    have z0 : w7.cell? ⟨w.heap.size, 0, none⟩ = some (.int .i64 0) := by rw [cell_at hb]; rfl
    have zf0 : w7.frozen? ⟨w.heap.size, 0, none⟩ = false := free_at hb 0
    have z1 : w7.cell? ⟨w.heap.size, 1, none⟩ = some (.string ⟨#[]⟩) := by rw [cell_at hb]; rfl
    have zf1 : w7.frozen? ⟨w.heap.size, 1, none⟩ = false := free_at hb 1
    have z2 : w7.cell? ⟨w.heap.size, 2, none⟩ = some (.string ⟨#[]⟩) := by rw [cell_at hb]; rfl
    have zf2 : w7.frozen? ⟨w.heap.size, 2, none⟩ = false := free_at hb 2
    have z3 : w7.cell? ⟨w.heap.size, 3, none⟩ = some (.int .i64 0) := by rw [cell_at hb]; rfl
    have zf3 : w7.frozen? ⟨w.heap.size, 3, none⟩ = false := free_at hb 3
    have z4 : w7.cell? ⟨w.heap.size, 4, none⟩ = some (.int .i64 0) := by rw [cell_at hb]; rfl
    have zf4 : w7.frozen? ⟨w.heap.size, 4, none⟩ = false := free_at hb 4
    clear hb
    have A := hid ((((((A.out.setBlk 0 (.int .i64 0)).setBlk 1 (.string ⟨#[]⟩)).setBlk 2 (.string ⟨#[]⟩)).setBlk 3 (.int .i64 0)).setBlk 4 (.int .i64 0)))
    go_wp2
    refine bodyPost_ret (v := opV 0 emp emp 0 0) (res13 (b := w.heap.size) rfl A.out.1.2.1) rfl ?_
    have A := A.out.tail.tail
    rw [gotV, if_neg hR.out]
    exact ⟨rfl, A⟩

set_option maxHeartbeats 3200000 in
set_option maxRecDepth 1000000 in
theorem xget5 {b : Nat} {v : Value} {B : List UInt8} {r : Rst} {cs : List Comp} {w : World} (h : All (xrC b v B r :: cs) w) (hp : B.length ≤ 140737488355328) (hk : r.numV 8 = 5) :
    Calls Tryz.prog 13 #[.pointer (some ⟨b, 0, none⟩)] w fun e w' => e = .returned (gotV ((((r.num 8).txt 16).txt 16).fail (chkA 5 (ByteArray.size ((r.num 8).txtV 16)) (ByteArray.size (((r.num 8).txt 16).txtV 16)) 0 0)) 5 ((r.num 8).txtV 16) (((r.num 8).txt 16).txtV 16) 0 0) ∧ All (xrC b v B ((((r.num 8).txt 16).txt 16).fail (chkA 5 (ByteArray.size ((r.num 8).txtV 16)) (ByteArray.size (((r.num 8).txt 16).txtV 16)) 0 0)) :: cs) w' := by
  have N : ∀ W : World, Calls Tryz.prog 57 #[.int .i64 5] W fun e w' => e = .returned (.bool true) ∧ w' = W := fun W => hasName_any 5
  have L : ∀ W : World, Calls Tryz.prog 59 #[.int .i64 5] W fun e w' => e = .returned (.int .i64 (16)) ∧ w' = W := fun W => textMost_any 5
  have M : ∀ W : World, Calls Tryz.prog 60 #[.int .i64 5] W fun e w' => e = .returned (.bool false) ∧ w' = W := fun W => hasNum_any 5
  have A0 := (h.addBlk [.int .i64 0, .string ⟨#[]⟩, .string ⟨#[]⟩, .int .i64 0, .int .i64 0] 35).addBlk [.int .i64 0, .string ⟨#[]⟩, .string ⟨#[]⟩, .int .i64 0, .int .i64 0] 35
  simp only [World.size_alloc] at A0
  have A := hid A0.rev3
  have HK := hid hk
  clear h hk A0
  generalize hnm : ((r.num 8).txtV 16) = nm
  have Hnm := hid hnm
  clear hnm
  generalize htx : (((r.num 8).txt 16).txtV 16) = tx
  have Htx := hid htx
  clear htx
  generalize h5 : (((r.num 8).txt 16).txt 16) = r5
  have H5 := hid h5
  clear h5
  generalize hck : chkA 5 (ByteArray.size nm) (ByteArray.size tx) 0 0 = ck
  have Hck := hid hck
  clear hck
  generalize hRR : r5.fail ck = R
  have HRR := hid hRR
  clear hRR
  go_enter Tryz.func13, Tryz.ntmps13
  go_wp2_with fail
  refine (xnumRd A.out hp 8).mono ?_
  rw [HK.out]
  rintro e w1 ⟨rfl, A1⟩
  have A := hid A1.rev3
  clear A1 HK
  have A := hid (show All (blkC (w.heap.size + 1) [.int .i64 0, .string ⟨#[]⟩, .string ⟨#[]⟩, .int .i64 0, .int .i64 0] 35 :: blkC w.heap.size [.int .i64 0, .string ⟨#[]⟩, .string ⟨#[]⟩, .int .i64 0, .int .i64 0] 35 :: xrC b v B (r.num 8) :: cs) w1 from A.out)
  have hb := A.out.blk (g := (w.heap.size + 1)) (vs := [.int .i64 0, .string ⟨#[]⟩, .string ⟨#[]⟩, .int .i64 0, .int .i64 0]) (t := 35) List.mem_cons_self
  have q : w1.cell? ⟨(w.heap.size + 1), 0, none⟩ = some (.int .i64 0) := by rw [cell_at hb]; rfl
  have qf : w1.frozen? ⟨(w.heap.size + 1), 0, none⟩ = false := free_at hb 0
  clear hb
  have A := hid (show All (blkC (w.heap.size + 1) [.int .i64 5, .string ⟨#[]⟩, .string ⟨#[]⟩, .int .i64 0, .int .i64 0] 35 :: blkC w.heap.size [.int .i64 0, .string ⟨#[]⟩, .string ⟨#[]⟩, .int .i64 0, .int .i64 0] 35 :: xrC b v B (r.num 8) :: cs) (w1.setCell ⟨(w.heap.size + 1), 0, none⟩ (.int .i64 5)) from A.out.setBlk 0 (.int .i64 5))
  generalize hG1 : w1.setCell ⟨(w.heap.size + 1), 0, none⟩ (.int .i64 5) = w2 at A
  have hb := A.out.blk (g := (w.heap.size + 1)) (vs := [.int .i64 5, .string ⟨#[]⟩, .string ⟨#[]⟩, .int .i64 0, .int .i64 0]) (t := 35) List.mem_cons_self
  have o0 : w2.cell? ⟨(w.heap.size + 1), 0, none⟩ = some (.int .i64 5) := by rw [cell_at hb]; rfl
  clear hb
  go_wp2_with fail
  refine (N _).mono ?_
  rintro e _ ⟨rfl, rfl⟩
  go_wp2_with fail
  refine (xtextRd A.out.rev3 hp 16).mono ?_
  rw [Hnm.out]
  rintro e w3 ⟨rfl, A1⟩
  have A := hid A1.rev3
  clear A1 o0
  have hb := A.out.blk (g := (w.heap.size + 1)) (vs := [.int .i64 5, .string ⟨#[]⟩, .string ⟨#[]⟩, .int .i64 0, .int .i64 0]) (t := 35) List.mem_cons_self
  have q : w3.cell? ⟨(w.heap.size + 1), 1, none⟩ = some (.string ⟨#[]⟩) := by rw [cell_at hb]; rfl
  have qf : w3.frozen? ⟨(w.heap.size + 1), 1, none⟩ = false := free_at hb 1
  clear hb
  have A := hid (show All (blkC (w.heap.size + 1) [.int .i64 5, .string nm, .string ⟨#[]⟩, .int .i64 0, .int .i64 0] 35 :: blkC w.heap.size [.int .i64 0, .string ⟨#[]⟩, .string ⟨#[]⟩, .int .i64 0, .int .i64 0] 35 :: xrC b v B ((r.num 8).txt 16) :: cs) (w3.setCell ⟨(w.heap.size + 1), 1, none⟩ (.string nm)) from A.out.setBlk 1 (.string nm))
  generalize hG3 : w3.setCell ⟨(w.heap.size + 1), 1, none⟩ (.string nm) = w4 at A
  have hb := A.out.blk (g := (w.heap.size + 1)) (vs := [.int .i64 5, .string nm, .string ⟨#[]⟩, .int .i64 0, .int .i64 0]) (t := 35) List.mem_cons_self
  have o0 : w4.cell? ⟨(w.heap.size + 1), 0, none⟩ = some (.int .i64 5) := by rw [cell_at hb]; rfl
  clear hb
  go_wp2_with fail
  refine (L _).mono ?_
  rintro e _ ⟨rfl, rfl⟩
  go_wp2_with fail
  refine (L _).mono ?_
  rintro e _ ⟨rfl, rfl⟩
  go_wp2_with fail
  refine (xtextRd A.out.rev3 hp 16).mono ?_
  rw [Htx.out]
  rintro e w5 ⟨rfl, A1⟩
  have A := hid A1.rev3
  clear A1 o0
  have hb := A.out.blk (g := (w.heap.size + 1)) (vs := [.int .i64 5, .string nm, .string ⟨#[]⟩, .int .i64 0, .int .i64 0]) (t := 35) List.mem_cons_self
  have q : w5.cell? ⟨(w.heap.size + 1), 2, none⟩ = some (.string ⟨#[]⟩) := by rw [cell_at hb]; rfl
  have qf : w5.frozen? ⟨(w.heap.size + 1), 2, none⟩ = false := free_at hb 2
  clear hb
  have A := hid (show All (blkC (w.heap.size + 1) [.int .i64 5, .string nm, .string tx, .int .i64 0, .int .i64 0] 35 :: blkC w.heap.size [.int .i64 0, .string ⟨#[]⟩, .string ⟨#[]⟩, .int .i64 0, .int .i64 0] 35 :: xrC b v B (((r.num 8).txt 16).txt 16) :: cs) (w5.setCell ⟨(w.heap.size + 1), 2, none⟩ (.string tx)) from A.out.setBlk 2 (.string tx))
  generalize hG5 : w5.setCell ⟨(w.heap.size + 1), 2, none⟩ (.string tx) = w6 at A
  have hb := A.out.blk (g := (w.heap.size + 1)) (vs := [.int .i64 5, .string nm, .string tx, .int .i64 0, .int .i64 0]) (t := 35) List.mem_cons_self
  have o0 : w6.cell? ⟨(w.heap.size + 1), 0, none⟩ = some (.int .i64 5) := by rw [cell_at hb]; rfl
  clear hb
  go_wp2_with fail
  refine (M _).mono ?_
  rintro e _ ⟨rfl, rfl⟩
  rw [H5.out] at A
  clear H5
  go_wp2_with fail
  refine (xerrRd A.out.rev3).mono ?_
  rintro e w7 ⟨rfl, A1⟩
  have A := hid A1.rev3
  clear A1 o0
  by_cases her : r5.err = 0
  · have e1 : (r5.err == 0) = true := by rw [beq_iff_eq]; exact her
    have e2 : (r5.err != 0) = false := by simp [her]
    have her := hid her
    have hb := A.out.blk (g := (w.heap.size + 1)) (vs := [.int .i64 5, .string nm, .string tx, .int .i64 0, .int .i64 0]) (t := 35) List.mem_cons_self
    have o0 : w7.cell? ⟨(w.heap.size + 1), 0, none⟩ = some (.int .i64 5) := by rw [cell_at hb]; rfl
    have o1 : w7.cell? ⟨(w.heap.size + 1), 1, none⟩ = some (.string nm) := by rw [cell_at hb]; rfl
    have o2 : w7.cell? ⟨(w.heap.size + 1), 2, none⟩ = some (.string tx) := by rw [cell_at hb]; rfl
    have o3 : w7.cell? ⟨(w.heap.size + 1), 3, none⟩ = some (.int .i64 0) := by rw [cell_at hb]; rfl
    have o4 : w7.cell? ⟨(w.heap.size + 1), 4, none⟩ = some (.int .i64 0) := by rw [cell_at hb]; rfl
    clear hb
    go_wp2_with fail
    refine (rcheck_any 5 nm tx 0 0).mono ?_
    rw [Hck.out]
    rintro e w8 ⟨rfl, Bh⟩
    have A := hid (A.out.later Bh)
    clear Bh o0 o1 o2 o3 o4 e1 e2
    by_cases hc : ck = 0
    · subst hc
      rw [fail_zero] at HRR
      have hb := A.out.blk (g := (w.heap.size + 1)) (vs := [.int .i64 5, .string nm, .string tx, .int .i64 0, .int .i64 0]) (t := 35) List.mem_cons_self
      have o0 : w8.cell? ⟨(w.heap.size + 1), 0, none⟩ = some (.int .i64 5) := by rw [cell_at hb]; rfl
      have o1 : w8.cell? ⟨(w.heap.size + 1), 1, none⟩ = some (.string nm) := by rw [cell_at hb]; rfl
      have o2 : w8.cell? ⟨(w.heap.size + 1), 2, none⟩ = some (.string tx) := by rw [cell_at hb]; rfl
      have o3 : w8.cell? ⟨(w.heap.size + 1), 3, none⟩ = some (.int .i64 0) := by rw [cell_at hb]; rfl
      have o4 : w8.cell? ⟨(w.heap.size + 1), 4, none⟩ = some (.int .i64 0) := by rw [cell_at hb]; rfl
      clear hb
      have A := hid A.out.swap
      have hb := A.out.blk (g := w.heap.size) (vs := [.int .i64 0, .string ⟨#[]⟩, .string ⟨#[]⟩, .int .i64 0, .int .i64 0]) (t := 35) List.mem_cons_self
      have z0 : w8.cell? ⟨w.heap.size, 0, none⟩ = some (.int .i64 0) := by rw [cell_at hb]; rfl
      have zf0 : w8.frozen? ⟨w.heap.size, 0, none⟩ = false := free_at hb 0
      have z1 : w8.cell? ⟨w.heap.size, 1, none⟩ = some (.string ⟨#[]⟩) := by rw [cell_at hb]; rfl
      have zf1 : w8.frozen? ⟨w.heap.size, 1, none⟩ = false := free_at hb 1
      have z2 : w8.cell? ⟨w.heap.size, 2, none⟩ = some (.string ⟨#[]⟩) := by rw [cell_at hb]; rfl
      have zf2 : w8.frozen? ⟨w.heap.size, 2, none⟩ = false := free_at hb 2
      have z3 : w8.cell? ⟨w.heap.size, 3, none⟩ = some (.int .i64 0) := by rw [cell_at hb]; rfl
      have zf3 : w8.frozen? ⟨w.heap.size, 3, none⟩ = false := free_at hb 3
      have z4 : w8.cell? ⟨w.heap.size, 4, none⟩ = some (.int .i64 0) := by rw [cell_at hb]; rfl
      have zf4 : w8.frozen? ⟨w.heap.size, 4, none⟩ = false := free_at hb 4
      clear hb
      have A := hid ((((((A.out.setBlk 0 (.int .i64 5)).setBlk 1 (.string nm)).setBlk 2 (.string tx)).setBlk 3 (.int .i64 0)).setBlk 4 (.int .i64 0)))
      go_wp2
      refine bodyPost_ret (v := opV 5 nm tx 0 0) (res13 (b := w.heap.size) rfl A.out.1.2.1) rfl ?_
      have A := A.out.tail.tail
      rw [gotV, ← HRR.out, if_pos her.out]
      exact ⟨rfl, A⟩
    · have e1 : (ck == 0) = false := by rw [beq_eq_false_iff_ne]; exact hc
      have e2 : (ck != 0) = true := by simpa using hc
      have hc := hid hc
      go_wp2_with fail
      refine (xfailRd A.out.rev3 her.out ck hc.out).mono ?_
      rw [HRR.out]
      rintro e w9 ⟨rfl, A1⟩
      have A := hid A1.rev3
      clear A1
      have hR : R.err ≠ 0 := by rw [← HRR.out, Rst.fail, if_neg hc.out, her.out, keepE, if_pos rfl]; exact hc.out
      have hR := hid hR
      clear HRR her hc
      have A := hid A.out.swap
      have hb := A.out.blk (g := w.heap.size) (vs := [.int .i64 0, .string ⟨#[]⟩, .string ⟨#[]⟩, .int .i64 0, .int .i64 0]) (t := 35) List.mem_cons_self
      have z0 : w9.cell? ⟨w.heap.size, 0, none⟩ = some (.int .i64 0) := by rw [cell_at hb]; rfl
      have zf0 : w9.frozen? ⟨w.heap.size, 0, none⟩ = false := free_at hb 0
      have z1 : w9.cell? ⟨w.heap.size, 1, none⟩ = some (.string ⟨#[]⟩) := by rw [cell_at hb]; rfl
      have zf1 : w9.frozen? ⟨w.heap.size, 1, none⟩ = false := free_at hb 1
      have z2 : w9.cell? ⟨w.heap.size, 2, none⟩ = some (.string ⟨#[]⟩) := by rw [cell_at hb]; rfl
      have zf2 : w9.frozen? ⟨w.heap.size, 2, none⟩ = false := free_at hb 2
      have z3 : w9.cell? ⟨w.heap.size, 3, none⟩ = some (.int .i64 0) := by rw [cell_at hb]; rfl
      have zf3 : w9.frozen? ⟨w.heap.size, 3, none⟩ = false := free_at hb 3
      have z4 : w9.cell? ⟨w.heap.size, 4, none⟩ = some (.int .i64 0) := by rw [cell_at hb]; rfl
      have zf4 : w9.frozen? ⟨w.heap.size, 4, none⟩ = false := free_at hb 4
      clear hb
      have A := hid ((((((A.out.setBlk 0 (.int .i64 0)).setBlk 1 (.string ⟨#[]⟩)).setBlk 2 (.string ⟨#[]⟩)).setBlk 3 (.int .i64 0)).setBlk 4 (.int .i64 0)))
      go_wp2
      refine bodyPost_ret (v := opV 0 emp emp 0 0) (res13 (b := w.heap.size) rfl A.out.1.2.1) rfl ?_
      have A := A.out.tail.tail
      rw [gotV, if_neg hR.out]
      exact ⟨rfl, A⟩
  · have e1 : (r5.err == 0) = false := by rw [beq_eq_false_iff_ne]; exact her
    have e2 : (r5.err != 0) = true := by simpa using her
    have hx := A.out.rev3.xdead her ck
    rw [HRR.out] at hx
    have A := hid hx.1.rev3
    have hR := hid hx.2
    clear hx her HRR
    have A := hid A.out.swap
    have hb := A.out.blk (g := w.heap.size) (vs := [.int .i64 0, .string ⟨#[]⟩, .string ⟨#[]⟩, .int .i64 0, .int .i64 0]) (t := 35) List.mem_cons_self
    have z0 : w7.cell? ⟨w.heap.size, 0, none⟩ = some (.int .i64 0) := by rw [cell_at hb]; rfl
    have zf0 : w7.frozen? ⟨w.heap.size, 0, none⟩ = false := free_at hb 0
    have z1 : w7.cell? ⟨w.heap.size, 1, none⟩ = some (.string ⟨#[]⟩) := by rw [cell_at hb]; rfl
    have zf1 : w7.frozen? ⟨w.heap.size, 1, none⟩ = false := free_at hb 1
    have z2 : w7.cell? ⟨w.heap.size, 2, none⟩ = some (.string ⟨#[]⟩) := by rw [cell_at hb]; rfl
    have zf2 : w7.frozen? ⟨w.heap.size, 2, none⟩ = false := free_at hb 2
    have z3 : w7.cell? ⟨w.heap.size, 3, none⟩ = some (.int .i64 0) := by rw [cell_at hb]; rfl
    have zf3 : w7.frozen? ⟨w.heap.size, 3, none⟩ = false := free_at hb 3
    have z4 : w7.cell? ⟨w.heap.size, 4, none⟩ = some (.int .i64 0) := by rw [cell_at hb]; rfl
    have zf4 : w7.frozen? ⟨w.heap.size, 4, none⟩ = false := free_at hb 4
    clear hb
    have A := hid ((((((A.out.setBlk 0 (.int .i64 0)).setBlk 1 (.string ⟨#[]⟩)).setBlk 2 (.string ⟨#[]⟩)).setBlk 3 (.int .i64 0)).setBlk 4 (.int .i64 0)))
    go_wp2
    refine bodyPost_ret (v := opV 0 emp emp 0 0) (res13 (b := w.heap.size) rfl A.out.1.2.1) rfl ?_
    have A := A.out.tail.tail
    rw [gotV, if_neg hR.out]
    exact ⟨rfl, A⟩

set_option maxHeartbeats 3200000 in
set_option maxRecDepth 1000000 in
theorem xget6 {b : Nat} {v : Value} {B : List UInt8} {r : Rst} {cs : List Comp} {w : World} (h : All (xrC b v B r :: cs) w) (hp : B.length ≤ 140737488355328) (hk : r.numV 8 = 6) :
    Calls Tryz.prog 13 #[.pointer (some ⟨b, 0, none⟩)] w fun e w' => e = .returned (gotV (((((r.num 8).txt 16).num 1099511627776).num 8).fail (chkA 6 (ByteArray.size ((r.num 8).txtV 16)) (ByteArray.size emp) (((r.num 8).txt 16).numV 1099511627776) ((((r.num 8).txt 16).num 1099511627776).numV 8))) 6 ((r.num 8).txtV 16) emp (((r.num 8).txt 16).numV 1099511627776) ((((r.num 8).txt 16).num 1099511627776).numV 8)) ∧ All (xrC b v B (((((r.num 8).txt 16).num 1099511627776).num 8).fail (chkA 6 (ByteArray.size ((r.num 8).txtV 16)) (ByteArray.size emp) (((r.num 8).txt 16).numV 1099511627776) ((((r.num 8).txt 16).num 1099511627776).numV 8))) :: cs) w' := by
  have N : ∀ W : World, Calls Tryz.prog 57 #[.int .i64 6] W fun e w' => e = .returned (.bool true) ∧ w' = W := fun W => hasName_any 6
  have L : ∀ W : World, Calls Tryz.prog 59 #[.int .i64 6] W fun e w' => e = .returned (.int .i64 (-1)) ∧ w' = W := fun W => textMost_any 6
  have M : ∀ W : World, Calls Tryz.prog 60 #[.int .i64 6] W fun e w' => e = .returned (.bool true) ∧ w' = W := fun W => hasNum_any 6
  have A0 := (h.addBlk [.int .i64 0, .string ⟨#[]⟩, .string ⟨#[]⟩, .int .i64 0, .int .i64 0] 35).addBlk [.int .i64 0, .string ⟨#[]⟩, .string ⟨#[]⟩, .int .i64 0, .int .i64 0] 35
  simp only [World.size_alloc] at A0
  have A := hid A0.rev3
  have HK := hid hk
  clear h hk A0
  generalize hnm : ((r.num 8).txtV 16) = nm
  have Hnm := hid hnm
  clear hnm
  generalize hn : (((r.num 8).txt 16).numV 1099511627776) = n
  have Hn := hid hn
  clear hn
  generalize hm : ((((r.num 8).txt 16).num 1099511627776).numV 8) = m
  have Hm := hid hm
  clear hm
  generalize h5 : ((((r.num 8).txt 16).num 1099511627776).num 8) = r5
  have H5 := hid h5
  clear h5
  generalize hck : chkA 6 (ByteArray.size nm) (ByteArray.size emp) n m = ck
  have Hck := hid hck
  clear hck
  generalize hRR : r5.fail ck = R
  have HRR := hid hRR
  clear hRR
  go_enter Tryz.func13, Tryz.ntmps13
  go_wp2_with fail
  refine (xnumRd A.out hp 8).mono ?_
  rw [HK.out]
  rintro e w1 ⟨rfl, A1⟩
  have A := hid A1.rev3
  clear A1 HK
  have A := hid (show All (blkC (w.heap.size + 1) [.int .i64 0, .string ⟨#[]⟩, .string ⟨#[]⟩, .int .i64 0, .int .i64 0] 35 :: blkC w.heap.size [.int .i64 0, .string ⟨#[]⟩, .string ⟨#[]⟩, .int .i64 0, .int .i64 0] 35 :: xrC b v B (r.num 8) :: cs) w1 from A.out)
  have hb := A.out.blk (g := (w.heap.size + 1)) (vs := [.int .i64 0, .string ⟨#[]⟩, .string ⟨#[]⟩, .int .i64 0, .int .i64 0]) (t := 35) List.mem_cons_self
  have q : w1.cell? ⟨(w.heap.size + 1), 0, none⟩ = some (.int .i64 0) := by rw [cell_at hb]; rfl
  have qf : w1.frozen? ⟨(w.heap.size + 1), 0, none⟩ = false := free_at hb 0
  clear hb
  have A := hid (show All (blkC (w.heap.size + 1) [.int .i64 6, .string ⟨#[]⟩, .string ⟨#[]⟩, .int .i64 0, .int .i64 0] 35 :: blkC w.heap.size [.int .i64 0, .string ⟨#[]⟩, .string ⟨#[]⟩, .int .i64 0, .int .i64 0] 35 :: xrC b v B (r.num 8) :: cs) (w1.setCell ⟨(w.heap.size + 1), 0, none⟩ (.int .i64 6)) from A.out.setBlk 0 (.int .i64 6))
  generalize hG1 : w1.setCell ⟨(w.heap.size + 1), 0, none⟩ (.int .i64 6) = w2 at A
  have hb := A.out.blk (g := (w.heap.size + 1)) (vs := [.int .i64 6, .string ⟨#[]⟩, .string ⟨#[]⟩, .int .i64 0, .int .i64 0]) (t := 35) List.mem_cons_self
  have o0 : w2.cell? ⟨(w.heap.size + 1), 0, none⟩ = some (.int .i64 6) := by rw [cell_at hb]; rfl
  clear hb
  go_wp2_with fail
  refine (N _).mono ?_
  rintro e _ ⟨rfl, rfl⟩
  go_wp2_with fail
  refine (xtextRd A.out.rev3 hp 16).mono ?_
  rw [Hnm.out]
  rintro e w3 ⟨rfl, A1⟩
  have A := hid A1.rev3
  clear A1 o0
  have hb := A.out.blk (g := (w.heap.size + 1)) (vs := [.int .i64 6, .string ⟨#[]⟩, .string ⟨#[]⟩, .int .i64 0, .int .i64 0]) (t := 35) List.mem_cons_self
  have q : w3.cell? ⟨(w.heap.size + 1), 1, none⟩ = some (.string ⟨#[]⟩) := by rw [cell_at hb]; rfl
  have qf : w3.frozen? ⟨(w.heap.size + 1), 1, none⟩ = false := free_at hb 1
  clear hb
  have A := hid (show All (blkC (w.heap.size + 1) [.int .i64 6, .string nm, .string ⟨#[]⟩, .int .i64 0, .int .i64 0] 35 :: blkC w.heap.size [.int .i64 0, .string ⟨#[]⟩, .string ⟨#[]⟩, .int .i64 0, .int .i64 0] 35 :: xrC b v B ((r.num 8).txt 16) :: cs) (w3.setCell ⟨(w.heap.size + 1), 1, none⟩ (.string nm)) from A.out.setBlk 1 (.string nm))
  generalize hG3 : w3.setCell ⟨(w.heap.size + 1), 1, none⟩ (.string nm) = w4 at A
  have hb := A.out.blk (g := (w.heap.size + 1)) (vs := [.int .i64 6, .string nm, .string ⟨#[]⟩, .int .i64 0, .int .i64 0]) (t := 35) List.mem_cons_self
  have o0 : w4.cell? ⟨(w.heap.size + 1), 0, none⟩ = some (.int .i64 6) := by rw [cell_at hb]; rfl
  clear hb
  go_wp2_with fail
  refine (L _).mono ?_
  rintro e _ ⟨rfl, rfl⟩
  go_wp2_with fail
  refine (M _).mono ?_
  rintro e _ ⟨rfl, rfl⟩
  go_wp2_with fail
  refine (xnumRd A.out.rev3 hp 1099511627776).mono ?_
  rw [Hn.out]
  rintro e w5 ⟨rfl, A1⟩
  have A := hid A1.rev3
  clear A1 o0
  have hb := A.out.blk (g := (w.heap.size + 1)) (vs := [.int .i64 6, .string nm, .string ⟨#[]⟩, .int .i64 0, .int .i64 0]) (t := 35) List.mem_cons_self
  have q : w5.cell? ⟨(w.heap.size + 1), 3, none⟩ = some (.int .i64 0) := by rw [cell_at hb]; rfl
  have qf : w5.frozen? ⟨(w.heap.size + 1), 3, none⟩ = false := free_at hb 3
  clear hb
  have A := hid (show All (blkC (w.heap.size + 1) [.int .i64 6, .string nm, .string ⟨#[]⟩, .int .i64 n, .int .i64 0] 35 :: blkC w.heap.size [.int .i64 0, .string ⟨#[]⟩, .string ⟨#[]⟩, .int .i64 0, .int .i64 0] 35 :: xrC b v B (((r.num 8).txt 16).num 1099511627776) :: cs) (w5.setCell ⟨(w.heap.size + 1), 3, none⟩ (.int .i64 n)) from A.out.setBlk 3 (.int .i64 n))
  generalize hG5 : w5.setCell ⟨(w.heap.size + 1), 3, none⟩ (.int .i64 n) = w6 at A
  have hb := A.out.blk (g := (w.heap.size + 1)) (vs := [.int .i64 6, .string nm, .string ⟨#[]⟩, .int .i64 n, .int .i64 0]) (t := 35) List.mem_cons_self
  have o0 : w6.cell? ⟨(w.heap.size + 1), 0, none⟩ = some (.int .i64 6) := by rw [cell_at hb]; rfl
  clear hb
  go_wp2_with fail
  refine (xnumRd A.out.rev3 hp 8).mono ?_
  rw [Hm.out]
  rintro e w7 ⟨rfl, A1⟩
  have A := hid A1.rev3
  clear A1 o0
  have hb := A.out.blk (g := (w.heap.size + 1)) (vs := [.int .i64 6, .string nm, .string ⟨#[]⟩, .int .i64 n, .int .i64 0]) (t := 35) List.mem_cons_self
  have q : w7.cell? ⟨(w.heap.size + 1), 4, none⟩ = some (.int .i64 0) := by rw [cell_at hb]; rfl
  have qf : w7.frozen? ⟨(w.heap.size + 1), 4, none⟩ = false := free_at hb 4
  clear hb
  have A := hid (show All (blkC (w.heap.size + 1) [.int .i64 6, .string nm, .string ⟨#[]⟩, .int .i64 n, .int .i64 m] 35 :: blkC w.heap.size [.int .i64 0, .string ⟨#[]⟩, .string ⟨#[]⟩, .int .i64 0, .int .i64 0] 35 :: xrC b v B ((((r.num 8).txt 16).num 1099511627776).num 8) :: cs) (w7.setCell ⟨(w.heap.size + 1), 4, none⟩ (.int .i64 m)) from A.out.setBlk 4 (.int .i64 m))
  generalize hG7 : w7.setCell ⟨(w.heap.size + 1), 4, none⟩ (.int .i64 m) = w8 at A
  have hb := A.out.blk (g := (w.heap.size + 1)) (vs := [.int .i64 6, .string nm, .string ⟨#[]⟩, .int .i64 n, .int .i64 m]) (t := 35) List.mem_cons_self
  have o0 : w8.cell? ⟨(w.heap.size + 1), 0, none⟩ = some (.int .i64 6) := by rw [cell_at hb]; rfl
  clear hb
  rw [H5.out] at A
  clear H5
  go_wp2_with fail
  refine (xerrRd A.out.rev3).mono ?_
  rintro e w9 ⟨rfl, A1⟩
  have A := hid A1.rev3
  clear A1 o0
  by_cases her : r5.err = 0
  · have e1 : (r5.err == 0) = true := by rw [beq_iff_eq]; exact her
    have e2 : (r5.err != 0) = false := by simp [her]
    have her := hid her
    have hb := A.out.blk (g := (w.heap.size + 1)) (vs := [.int .i64 6, .string nm, .string ⟨#[]⟩, .int .i64 n, .int .i64 m]) (t := 35) List.mem_cons_self
    have o0 : w9.cell? ⟨(w.heap.size + 1), 0, none⟩ = some (.int .i64 6) := by rw [cell_at hb]; rfl
    have o1 : w9.cell? ⟨(w.heap.size + 1), 1, none⟩ = some (.string nm) := by rw [cell_at hb]; rfl
    have o2 : w9.cell? ⟨(w.heap.size + 1), 2, none⟩ = some (.string ⟨#[]⟩) := by rw [cell_at hb]; rfl
    have o3 : w9.cell? ⟨(w.heap.size + 1), 3, none⟩ = some (.int .i64 n) := by rw [cell_at hb]; rfl
    have o4 : w9.cell? ⟨(w.heap.size + 1), 4, none⟩ = some (.int .i64 m) := by rw [cell_at hb]; rfl
    clear hb
    go_wp2_with fail
    refine (rcheck_any 6 nm emp n m).mono ?_
    rw [Hck.out]
    rintro e w10 ⟨rfl, Bh⟩
    have A := hid (A.out.later Bh)
    clear Bh o0 o1 o2 o3 o4 e1 e2
    by_cases hc : ck = 0
    · subst hc
      rw [fail_zero] at HRR
      have hb := A.out.blk (g := (w.heap.size + 1)) (vs := [.int .i64 6, .string nm, .string ⟨#[]⟩, .int .i64 n, .int .i64 m]) (t := 35) List.mem_cons_self
      have o0 : w10.cell? ⟨(w.heap.size + 1), 0, none⟩ = some (.int .i64 6) := by rw [cell_at hb]; rfl
      have o1 : w10.cell? ⟨(w.heap.size + 1), 1, none⟩ = some (.string nm) := by rw [cell_at hb]; rfl
      have o2 : w10.cell? ⟨(w.heap.size + 1), 2, none⟩ = some (.string ⟨#[]⟩) := by rw [cell_at hb]; rfl
      have o3 : w10.cell? ⟨(w.heap.size + 1), 3, none⟩ = some (.int .i64 n) := by rw [cell_at hb]; rfl
      have o4 : w10.cell? ⟨(w.heap.size + 1), 4, none⟩ = some (.int .i64 m) := by rw [cell_at hb]; rfl
      clear hb
      have A := hid A.out.swap
      have hb := A.out.blk (g := w.heap.size) (vs := [.int .i64 0, .string ⟨#[]⟩, .string ⟨#[]⟩, .int .i64 0, .int .i64 0]) (t := 35) List.mem_cons_self
      have z0 : w10.cell? ⟨w.heap.size, 0, none⟩ = some (.int .i64 0) := by rw [cell_at hb]; rfl
      have zf0 : w10.frozen? ⟨w.heap.size, 0, none⟩ = false := free_at hb 0
      have z1 : w10.cell? ⟨w.heap.size, 1, none⟩ = some (.string ⟨#[]⟩) := by rw [cell_at hb]; rfl
      have zf1 : w10.frozen? ⟨w.heap.size, 1, none⟩ = false := free_at hb 1
      have z2 : w10.cell? ⟨w.heap.size, 2, none⟩ = some (.string ⟨#[]⟩) := by rw [cell_at hb]; rfl
      have zf2 : w10.frozen? ⟨w.heap.size, 2, none⟩ = false := free_at hb 2
      have z3 : w10.cell? ⟨w.heap.size, 3, none⟩ = some (.int .i64 0) := by rw [cell_at hb]; rfl
      have zf3 : w10.frozen? ⟨w.heap.size, 3, none⟩ = false := free_at hb 3
      have z4 : w10.cell? ⟨w.heap.size, 4, none⟩ = some (.int .i64 0) := by rw [cell_at hb]; rfl
      have zf4 : w10.frozen? ⟨w.heap.size, 4, none⟩ = false := free_at hb 4
      clear hb
      have A := hid ((((((A.out.setBlk 0 (.int .i64 6)).setBlk 1 (.string nm)).setBlk 2 (.string ⟨#[]⟩)).setBlk 3 (.int .i64 n)).setBlk 4 (.int .i64 m)))
      go_wp2
      refine bodyPost_ret (v := opV 6 nm emp n m) (res13 (b := w.heap.size) rfl A.out.1.2.1) rfl ?_
      have A := A.out.tail.tail
      rw [gotV, ← HRR.out, if_pos her.out]
      exact ⟨rfl, A⟩
    · have e1 : (ck == 0) = false := by rw [beq_eq_false_iff_ne]; exact hc
      have e2 : (ck != 0) = true := by simpa using hc
      have hc := hid hc
      go_wp2_with fail
      refine (xfailRd A.out.rev3 her.out ck hc.out).mono ?_
      rw [HRR.out]
      rintro e w11 ⟨rfl, A1⟩
      have A := hid A1.rev3
      clear A1
      have hR : R.err ≠ 0 := by rw [← HRR.out, Rst.fail, if_neg hc.out, her.out, keepE, if_pos rfl]; exact hc.out
      have hR := hid hR
      clear HRR her hc
      have A := hid A.out.swap
      have hb := A.out.blk (g := w.heap.size) (vs := [.int .i64 0, .string ⟨#[]⟩, .string ⟨#[]⟩, .int .i64 0, .int .i64 0]) (t := 35) List.mem_cons_self
      have z0 : w11.cell? ⟨w.heap.size, 0, none⟩ = some (.int .i64 0) := by rw [cell_at hb]; rfl
      have zf0 : w11.frozen? ⟨w.heap.size, 0, none⟩ = false := free_at hb 0
      have z1 : w11.cell? ⟨w.heap.size, 1, none⟩ = some (.string ⟨#[]⟩) := by rw [cell_at hb]; rfl
      have zf1 : w11.frozen? ⟨w.heap.size, 1, none⟩ = false := free_at hb 1
      have z2 : w11.cell? ⟨w.heap.size, 2, none⟩ = some (.string ⟨#[]⟩) := by rw [cell_at hb]; rfl
      have zf2 : w11.frozen? ⟨w.heap.size, 2, none⟩ = false := free_at hb 2
      have z3 : w11.cell? ⟨w.heap.size, 3, none⟩ = some (.int .i64 0) := by rw [cell_at hb]; rfl
      have zf3 : w11.frozen? ⟨w.heap.size, 3, none⟩ = false := free_at hb 3
      have z4 : w11.cell? ⟨w.heap.size, 4, none⟩ = some (.int .i64 0) := by rw [cell_at hb]; rfl
      have zf4 : w11.frozen? ⟨w.heap.size, 4, none⟩ = false := free_at hb 4
      clear hb
      have A := hid ((((((A.out.setBlk 0 (.int .i64 0)).setBlk 1 (.string ⟨#[]⟩)).setBlk 2 (.string ⟨#[]⟩)).setBlk 3 (.int .i64 0)).setBlk 4 (.int .i64 0)))
      go_wp2
      refine bodyPost_ret (v := opV 0 emp emp 0 0) (res13 (b := w.heap.size) rfl A.out.1.2.1) rfl ?_
      have A := A.out.tail.tail
      rw [gotV, if_neg hR.out]
      exact ⟨rfl, A⟩
  · have e1 : (r5.err == 0) = false := by rw [beq_eq_false_iff_ne]; exact her
    have e2 : (r5.err != 0) = true := by simpa using her
    have hx := A.out.rev3.xdead her ck
    rw [HRR.out] at hx
    have A := hid hx.1.rev3
    have hR := hid hx.2
    clear hx her HRR
    have A := hid A.out.swap
    have hb := A.out.blk (g := w.heap.size) (vs := [.int .i64 0, .string ⟨#[]⟩, .string ⟨#[]⟩, .int .i64 0, .int .i64 0]) (t := 35) List.mem_cons_self
    have z0 : w9.cell? ⟨w.heap.size, 0, none⟩ = some (.int .i64 0) := by rw [cell_at hb]; rfl
    have zf0 : w9.frozen? ⟨w.heap.size, 0, none⟩ = false := free_at hb 0
    have z1 : w9.cell? ⟨w.heap.size, 1, none⟩ = some (.string ⟨#[]⟩) := by rw [cell_at hb]; rfl
    have zf1 : w9.frozen? ⟨w.heap.size, 1, none⟩ = false := free_at hb 1
    have z2 : w9.cell? ⟨w.heap.size, 2, none⟩ = some (.string ⟨#[]⟩) := by rw [cell_at hb]; rfl
    have zf2 : w9.frozen? ⟨w.heap.size, 2, none⟩ = false := free_at hb 2
    have z3 : w9.cell? ⟨w.heap.size, 3, none⟩ = some (.int .i64 0) := by rw [cell_at hb]; rfl
    have zf3 : w9.frozen? ⟨w.heap.size, 3, none⟩ = false := free_at hb 3
    have z4 : w9.cell? ⟨w.heap.size, 4, none⟩ = some (.int .i64 0) := by rw [cell_at hb]; rfl
    have zf4 : w9.frozen? ⟨w.heap.size, 4, none⟩ = false := free_at hb 4
    clear hb
    have A := hid ((((((A.out.setBlk 0 (.int .i64 0)).setBlk 1 (.string ⟨#[]⟩)).setBlk 2 (.string ⟨#[]⟩)).setBlk 3 (.int .i64 0)).setBlk 4 (.int .i64 0)))
    go_wp2
    refine bodyPost_ret (v := opV 0 emp emp 0 0) (res13 (b := w.heap.size) rfl A.out.1.2.1) rfl ?_
    have A := A.out.tail.tail
    rw [gotV, if_neg hR.out]
    exact ⟨rfl, A⟩

set_option maxHeartbeats 3200000 in
set_option maxRecDepth 1000000 in
theorem xget7 {b : Nat} {v : Value} {B : List UInt8} {r : Rst} {cs : List Comp} {w : World} (h : All (xrC b v B r :: cs) w) (hp : B.length ≤ 140737488355328) (hk : r.numV 8 = 7) :
    Calls Tryz.prog 13 #[.pointer (some ⟨b, 0, none⟩)] w fun e w' => e = .returned (gotV (((r.num 8).txt 16).fail (chkA 7 (ByteArray.size ((r.num 8).txtV 16)) (ByteArray.size emp) 0 0)) 7 ((r.num 8).txtV 16) emp 0 0) ∧ All (xrC b v B (((r.num 8).txt 16).fail (chkA 7 (ByteArray.size ((r.num 8).txtV 16)) (ByteArray.size emp) 0 0)) :: cs) w' := by
  have N : ∀ W : World, Calls Tryz.prog 57 #[.int .i64 7] W fun e w' => e = .returned (.bool true) ∧ w' = W := fun W => hasName_any 7
  have L : ∀ W : World, Calls Tryz.prog 59 #[.int .i64 7] W fun e w' => e = .returned (.int .i64 (-1)) ∧ w' = W := fun W => textMost_any 7
  have M : ∀ W : World, Calls Tryz.prog 60 #[.int .i64 7] W fun e w' => e = .returned (.bool false) ∧ w' = W := fun W => hasNum_any 7
  have A0 := (h.addBlk [.int .i64 0, .string ⟨#[]⟩, .string ⟨#[]⟩, .int .i64 0, .int .i64 0] 35).addBlk [.int .i64 0, .string ⟨#[]⟩, .string ⟨#[]⟩, .int .i64 0, .int .i64 0] 35
  simp only [World.size_alloc] at A0
  have A := hid A0.rev3
  have HK := hid hk
  clear h hk A0
  generalize hnm : ((r.num 8).txtV 16) = nm
  have Hnm := hid hnm
  clear hnm
  generalize h5 : ((r.num 8).txt 16) = r5
  have H5 := hid h5
  clear h5
  generalize hck : chkA 7 (ByteArray.size nm) (ByteArray.size emp) 0 0 = ck
  have Hck := hid hck
  clear hck
  generalize hRR : r5.fail ck = R
  have HRR := hid hRR
  clear hRR
  go_enter Tryz.func13, Tryz.ntmps13
  go_wp2_with fail
  refine (xnumRd A.out hp 8).mono ?_
  rw [HK.out]
  rintro e w1 ⟨rfl, A1⟩
  have A := hid A1.rev3
  clear A1 HK
  have A := hid (show All (blkC (w.heap.size + 1) [.int .i64 0, .string ⟨#[]⟩, .string ⟨#[]⟩, .int .i64 0, .int .i64 0] 35 :: blkC w.heap.size [.int .i64 0, .string ⟨#[]⟩, .string ⟨#[]⟩, .int .i64 0, .int .i64 0] 35 :: xrC b v B (r.num 8) :: cs) w1 from A.out)
  have hb := A.out.blk (g := (w.heap.size + 1)) (vs := [.int .i64 0, .string ⟨#[]⟩, .string ⟨#[]⟩, .int .i64 0, .int .i64 0]) (t := 35) List.mem_cons_self
  have q : w1.cell? ⟨(w.heap.size + 1), 0, none⟩ = some (.int .i64 0) := by rw [cell_at hb]; rfl
  have qf : w1.frozen? ⟨(w.heap.size + 1), 0, none⟩ = false := free_at hb 0
  clear hb
  have A := hid (show All (blkC (w.heap.size + 1) [.int .i64 7, .string ⟨#[]⟩, .string ⟨#[]⟩, .int .i64 0, .int .i64 0] 35 :: blkC w.heap.size [.int .i64 0, .string ⟨#[]⟩, .string ⟨#[]⟩, .int .i64 0, .int .i64 0] 35 :: xrC b v B (r.num 8) :: cs) (w1.setCell ⟨(w.heap.size + 1), 0, none⟩ (.int .i64 7)) from A.out.setBlk 0 (.int .i64 7))
  generalize hG1 : w1.setCell ⟨(w.heap.size + 1), 0, none⟩ (.int .i64 7) = w2 at A
  have hb := A.out.blk (g := (w.heap.size + 1)) (vs := [.int .i64 7, .string ⟨#[]⟩, .string ⟨#[]⟩, .int .i64 0, .int .i64 0]) (t := 35) List.mem_cons_self
  have o0 : w2.cell? ⟨(w.heap.size + 1), 0, none⟩ = some (.int .i64 7) := by rw [cell_at hb]; rfl
  clear hb
  go_wp2_with fail
  refine (N _).mono ?_
  rintro e _ ⟨rfl, rfl⟩
  go_wp2_with fail
  refine (xtextRd A.out.rev3 hp 16).mono ?_
  rw [Hnm.out]
  rintro e w3 ⟨rfl, A1⟩
  have A := hid A1.rev3
  clear A1 o0
  have hb := A.out.blk (g := (w.heap.size + 1)) (vs := [.int .i64 7, .string ⟨#[]⟩, .string ⟨#[]⟩, .int .i64 0, .int .i64 0]) (t := 35) List.mem_cons_self
  have q : w3.cell? ⟨(w.heap.size + 1), 1, none⟩ = some (.string ⟨#[]⟩) := by rw [cell_at hb]; rfl
  have qf : w3.frozen? ⟨(w.heap.size + 1), 1, none⟩ = false := free_at hb 1
  clear hb
  have A := hid (show All (blkC (w.heap.size + 1) [.int .i64 7, .string nm, .string ⟨#[]⟩, .int .i64 0, .int .i64 0] 35 :: blkC w.heap.size [.int .i64 0, .string ⟨#[]⟩, .string ⟨#[]⟩, .int .i64 0, .int .i64 0] 35 :: xrC b v B ((r.num 8).txt 16) :: cs) (w3.setCell ⟨(w.heap.size + 1), 1, none⟩ (.string nm)) from A.out.setBlk 1 (.string nm))
  generalize hG3 : w3.setCell ⟨(w.heap.size + 1), 1, none⟩ (.string nm) = w4 at A
  have hb := A.out.blk (g := (w.heap.size + 1)) (vs := [.int .i64 7, .string nm, .string ⟨#[]⟩, .int .i64 0, .int .i64 0]) (t := 35) List.mem_cons_self
  have o0 : w4.cell? ⟨(w.heap.size + 1), 0, none⟩ = some (.int .i64 7) := by rw [cell_at hb]; rfl
  clear hb
  go_wp2_with fail
  refine (L _).mono ?_
  rintro e _ ⟨rfl, rfl⟩
  go_wp2_with fail
  refine (M _).mono ?_
  rintro e _ ⟨rfl, rfl⟩
  rw [H5.out] at A
  clear H5
  go_wp2_with fail
  refine (xerrRd A.out.rev3).mono ?_
  rintro e w5 ⟨rfl, A1⟩
  have A := hid A1.rev3
  clear A1 o0
  by_cases her : r5.err = 0
  · have e1 : (r5.err == 0) = true := by rw [beq_iff_eq]; exact her
    have e2 : (r5.err != 0) = false := by simp [her]
    have her := hid her
    have hb := A.out.blk (g := (w.heap.size + 1)) (vs := [.int .i64 7, .string nm, .string ⟨#[]⟩, .int .i64 0, .int .i64 0]) (t := 35) List.mem_cons_self
    have o0 : w5.cell? ⟨(w.heap.size + 1), 0, none⟩ = some (.int .i64 7) := by rw [cell_at hb]; rfl
    have o1 : w5.cell? ⟨(w.heap.size + 1), 1, none⟩ = some (.string nm) := by rw [cell_at hb]; rfl
    have o2 : w5.cell? ⟨(w.heap.size + 1), 2, none⟩ = some (.string ⟨#[]⟩) := by rw [cell_at hb]; rfl
    have o3 : w5.cell? ⟨(w.heap.size + 1), 3, none⟩ = some (.int .i64 0) := by rw [cell_at hb]; rfl
    have o4 : w5.cell? ⟨(w.heap.size + 1), 4, none⟩ = some (.int .i64 0) := by rw [cell_at hb]; rfl
    clear hb
    go_wp2_with fail
    refine (rcheck_any 7 nm emp 0 0).mono ?_
    rw [Hck.out]
    rintro e w6 ⟨rfl, Bh⟩
    have A := hid (A.out.later Bh)
    clear Bh o0 o1 o2 o3 o4 e1 e2
    by_cases hc : ck = 0
    · subst hc
      rw [fail_zero] at HRR
      have hb := A.out.blk (g := (w.heap.size + 1)) (vs := [.int .i64 7, .string nm, .string ⟨#[]⟩, .int .i64 0, .int .i64 0]) (t := 35) List.mem_cons_self
      have o0 : w6.cell? ⟨(w.heap.size + 1), 0, none⟩ = some (.int .i64 7) := by rw [cell_at hb]; rfl
      have o1 : w6.cell? ⟨(w.heap.size + 1), 1, none⟩ = some (.string nm) := by rw [cell_at hb]; rfl
      have o2 : w6.cell? ⟨(w.heap.size + 1), 2, none⟩ = some (.string ⟨#[]⟩) := by rw [cell_at hb]; rfl
      have o3 : w6.cell? ⟨(w.heap.size + 1), 3, none⟩ = some (.int .i64 0) := by rw [cell_at hb]; rfl
      have o4 : w6.cell? ⟨(w.heap.size + 1), 4, none⟩ = some (.int .i64 0) := by rw [cell_at hb]; rfl
      clear hb
      have A := hid A.out.swap
      have hb := A.out.blk (g := w.heap.size) (vs := [.int .i64 0, .string ⟨#[]⟩, .string ⟨#[]⟩, .int .i64 0, .int .i64 0]) (t := 35) List.mem_cons_self
      have z0 : w6.cell? ⟨w.heap.size, 0, none⟩ = some (.int .i64 0) := by rw [cell_at hb]; rfl
      have zf0 : w6.frozen? ⟨w.heap.size, 0, none⟩ = false := free_at hb 0
      have z1 : w6.cell? ⟨w.heap.size, 1, none⟩ = some (.string ⟨#[]⟩) := by rw [cell_at hb]; rfl
      have zf1 : w6.frozen? ⟨w.heap.size, 1, none⟩ = false := free_at hb 1
      have z2 : w6.cell? ⟨w.heap.size, 2, none⟩ = some (.string ⟨#[]⟩) := by rw [cell_at hb]; rfl
      have zf2 : w6.frozen? ⟨w.heap.size, 2, none⟩ = false := free_at hb 2
      have z3 : w6.cell? ⟨w.heap.size, 3, none⟩ = some (.int .i64 0) := by rw [cell_at hb]; rfl
      have zf3 : w6.frozen? ⟨w.heap.size, 3, none⟩ = false := free_at hb 3
      have z4 : w6.cell? ⟨w.heap.size, 4, none⟩ = some (.int .i64 0) := by rw [cell_at hb]; rfl
      have zf4 : w6.frozen? ⟨w.heap.size, 4, none⟩ = false := free_at hb 4
      clear hb
      have A := hid ((((((A.out.setBlk 0 (.int .i64 7)).setBlk 1 (.string nm)).setBlk 2 (.string ⟨#[]⟩)).setBlk 3 (.int .i64 0)).setBlk 4 (.int .i64 0)))
      go_wp2
      refine bodyPost_ret (v := opV 7 nm emp 0 0) (res13 (b := w.heap.size) rfl A.out.1.2.1) rfl ?_
      have A := A.out.tail.tail
      rw [gotV, ← HRR.out, if_pos her.out]
      exact ⟨rfl, A⟩
    · have e1 : (ck == 0) = false := by rw [beq_eq_false_iff_ne]; exact hc
      have e2 : (ck != 0) = true := by simpa using hc
      have hc := hid hc
      go_wp2_with fail
      refine (xfailRd A.out.rev3 her.out ck hc.out).mono ?_
      rw [HRR.out]
      rintro e w7 ⟨rfl, A1⟩
      have A := hid A1.rev3
      clear A1
      have hR : R.err ≠ 0 := by rw [← HRR.out, Rst.fail, if_neg hc.out, her.out, keepE, if_pos rfl]; exact hc.out
      have hR := hid hR
      clear HRR her hc
      have A := hid A.out.swap
      have hb := A.out.blk (g := w.heap.size) (vs := [.int .i64 0, .string ⟨#[]⟩, .string ⟨#[]⟩, .int .i64 0, .int .i64 0]) (t := 35) List.mem_cons_self
      have z0 : w7.cell? ⟨w.heap.size, 0, none⟩ = some (.int .i64 0) := by rw [cell_at hb]; rfl
      have zf0 : w7.frozen? ⟨w.heap.size, 0, none⟩ = false := free_at hb 0
      have z1 : w7.cell? ⟨w.heap.size, 1, none⟩ = some (.string ⟨#[]⟩) := by rw [cell_at hb]; rfl
      have zf1 : w7.frozen? ⟨w.heap.size, 1, none⟩ = false := free_at hb 1
      have z2 : w7.cell? ⟨w.heap.size, 2, none⟩ = some (.string ⟨#[]⟩) := by rw [cell_at hb]; rfl
      have zf2 : w7.frozen? ⟨w.heap.size, 2, none⟩ = false := free_at hb 2
      have z3 : w7.cell? ⟨w.heap.size, 3, none⟩ = some (.int .i64 0) := by rw [cell_at hb]; rfl
      have zf3 : w7.frozen? ⟨w.heap.size, 3, none⟩ = false := free_at hb 3
      have z4 : w7.cell? ⟨w.heap.size, 4, none⟩ = some (.int .i64 0) := by rw [cell_at hb]; rfl
      have zf4 : w7.frozen? ⟨w.heap.size, 4, none⟩ = false := free_at hb 4
      clear hb
      have A := hid ((((((A.out.setBlk 0 (.int .i64 0)).setBlk 1 (.string ⟨#[]⟩)).setBlk 2 (.string ⟨#[]⟩)).setBlk 3 (.int .i64 0)).setBlk 4 (.int .i64 0)))
      go_wp2
      refine bodyPost_ret (v := opV 0 emp emp 0 0) (res13 (b := w.heap.size) rfl A.out.1.2.1) rfl ?_
      have A := A.out.tail.tail
      rw [gotV, if_neg hR.out]
      exact ⟨rfl, A⟩
  · have e1 : (r5.err == 0) = false := by rw [beq_eq_false_iff_ne]; exact her
    have e2 : (r5.err != 0) = true := by simpa using her
    have hx := A.out.rev3.xdead her ck
    rw [HRR.out] at hx
    have A := hid hx.1.rev3
    have hR := hid hx.2
    clear hx her HRR
    have A := hid A.out.swap
    have hb := A.out.blk (g := w.heap.size) (vs := [.int .i64 0, .string ⟨#[]⟩, .string ⟨#[]⟩, .int .i64 0, .int .i64 0]) (t := 35) List.mem_cons_self
    have z0 : w5.cell? ⟨w.heap.size, 0, none⟩ = some (.int .i64 0) := by rw [cell_at hb]; rfl
    have zf0 : w5.frozen? ⟨w.heap.size, 0, none⟩ = false := free_at hb 0
    have z1 : w5.cell? ⟨w.heap.size, 1, none⟩ = some (.string ⟨#[]⟩) := by rw [cell_at hb]; rfl
    have zf1 : w5.frozen? ⟨w.heap.size, 1, none⟩ = false := free_at hb 1
    have z2 : w5.cell? ⟨w.heap.size, 2, none⟩ = some (.string ⟨#[]⟩) := by rw [cell_at hb]; rfl
    have zf2 : w5.frozen? ⟨w.heap.size, 2, none⟩ = false := free_at hb 2
    have z3 : w5.cell? ⟨w.heap.size, 3, none⟩ = some (.int .i64 0) := by rw [cell_at hb]; rfl
    have zf3 : w5.frozen? ⟨w.heap.size, 3, none⟩ = false := free_at hb 3
    have z4 : w5.cell? ⟨w.heap.size, 4, none⟩ = some (.int .i64 0) := by rw [cell_at hb]; rfl
    have zf4 : w5.frozen? ⟨w.heap.size, 4, none⟩ = false := free_at hb 4
    clear hb
    have A := hid ((((((A.out.setBlk 0 (.int .i64 0)).setBlk 1 (.string ⟨#[]⟩)).setBlk 2 (.string ⟨#[]⟩)).setBlk 3 (.int .i64 0)).setBlk 4 (.int .i64 0)))
    go_wp2
    refine bodyPost_ret (v := opV 0 emp emp 0 0) (res13 (b := w.heap.size) rfl A.out.1.2.1) rfl ?_
    have A := A.out.tail.tail
    rw [gotV, if_neg hR.out]
    exact ⟨rfl, A⟩

set_option maxHeartbeats 3200000 in
set_option maxRecDepth 1000000 in
theorem xget8 {b : Nat} {v : Value} {B : List UInt8} {r : Rst} {cs : List Comp} {w : World} (h : All (xrC b v B r :: cs) w) (hp : B.length ≤ 140737488355328) (hk : r.numV 8 = 8) :
    Calls Tryz.prog 13 #[.pointer (some ⟨b, 0, none⟩)] w fun e w' => e = .returned (gotV ((r.num 8).fail (chkA 8 (ByteArray.size emp) (ByteArray.size emp) 0 0)) 8 emp emp 0 0) ∧ All (xrC b v B ((r.num 8).fail (chkA 8 (ByteArray.size emp) (ByteArray.size emp) 0 0)) :: cs) w' := by
  have N : ∀ W : World, Calls Tryz.prog 57 #[.int .i64 8] W fun e w' => e = .returned (.bool false) ∧ w' = W := fun W => hasName_any 8
  have L : ∀ W : World, Calls Tryz.prog 59 #[.int .i64 8] W fun e w' => e = .returned (.int .i64 (-1)) ∧ w' = W := fun W => textMost_any 8
  have M : ∀ W : World, Calls Tryz.prog 60 #[.int .i64 8] W fun e w' => e = .returned (.bool false) ∧ w' = W := fun W => hasNum_any 8
  have A0 := (h.addBlk [.int .i64 0, .string ⟨#[]⟩, .string ⟨#[]⟩, .int .i64 0, .int .i64 0] 35).addBlk [.int .i64 0, .string ⟨#[]⟩, .string ⟨#[]⟩, .int .i64 0, .int .i64 0] 35
  simp only [World.size_alloc] at A0
  have A := hid A0.rev3
  have HK := hid hk
  clear h hk A0
  generalize h5 : (r.num 8) = r5
  have H5 := hid h5
  clear h5
  generalize hck : chkA 8 (ByteArray.size emp) (ByteArray.size emp) 0 0 = ck
  have Hck := hid hck
  clear hck
  generalize hRR : r5.fail ck = R
  have HRR := hid hRR
  clear hRR
  go_enter Tryz.func13, Tryz.ntmps13
  go_wp2_with fail
  refine (xnumRd A.out hp 8).mono ?_
  rw [HK.out]
  rintro e w1 ⟨rfl, A1⟩
  have A := hid A1.rev3
  clear A1 HK
  have A := hid (show All (blkC (w.heap.size + 1) [.int .i64 0, .string ⟨#[]⟩, .string ⟨#[]⟩, .int .i64 0, .int .i64 0] 35 :: blkC w.heap.size [.int .i64 0, .string ⟨#[]⟩, .string ⟨#[]⟩, .int .i64 0, .int .i64 0] 35 :: xrC b v B (r.num 8) :: cs) w1 from A.out)
  have hb := A.out.blk (g := (w.heap.size + 1)) (vs := [.int .i64 0, .string ⟨#[]⟩, .string ⟨#[]⟩, .int .i64 0, .int .i64 0]) (t := 35) List.mem_cons_self
  have q : w1.cell? ⟨(w.heap.size + 1), 0, none⟩ = some (.int .i64 0) := by rw [cell_at hb]; rfl
  have qf : w1.frozen? ⟨(w.heap.size + 1), 0, none⟩ = false := free_at hb 0
  clear hb
  have A := hid (show All (blkC (w.heap.size + 1) [.int .i64 8, .string ⟨#[]⟩, .string ⟨#[]⟩, .int .i64 0, .int .i64 0] 35 :: blkC w.heap.size [.int .i64 0, .string ⟨#[]⟩, .string ⟨#[]⟩, .int .i64 0, .int .i64 0] 35 :: xrC b v B (r.num 8) :: cs) (w1.setCell ⟨(w.heap.size + 1), 0, none⟩ (.int .i64 8)) from A.out.setBlk 0 (.int .i64 8))
  generalize hG1 : w1.setCell ⟨(w.heap.size + 1), 0, none⟩ (.int .i64 8) = w2 at A
  have hb := A.out.blk (g := (w.heap.size + 1)) (vs := [.int .i64 8, .string ⟨#[]⟩, .string ⟨#[]⟩, .int .i64 0, .int .i64 0]) (t := 35) List.mem_cons_self
  have o0 : w2.cell? ⟨(w.heap.size + 1), 0, none⟩ = some (.int .i64 8) := by rw [cell_at hb]; rfl
  clear hb
  go_wp2_with fail
  refine (N _).mono ?_
  rintro e _ ⟨rfl, rfl⟩
  go_wp2_with fail
  refine (L _).mono ?_
  rintro e _ ⟨rfl, rfl⟩
  go_wp2_with fail
  refine (M _).mono ?_
  rintro e _ ⟨rfl, rfl⟩
  rw [H5.out] at A
  clear H5
  go_wp2_with fail
  refine (xerrRd A.out.rev3).mono ?_
  rintro e w3 ⟨rfl, A1⟩
  have A := hid A1.rev3
  clear A1 o0
  by_cases her : r5.err = 0
  · have e1 : (r5.err == 0) = true := by rw [beq_iff_eq]; exact her
    have e2 : (r5.err != 0) = false := by simp [her]
    have her := hid her
    have hb := A.out.blk (g := (w.heap.size + 1)) (vs := [.int .i64 8, .string ⟨#[]⟩, .string ⟨#[]⟩, .int .i64 0, .int .i64 0]) (t := 35) List.mem_cons_self
    have o0 : w3.cell? ⟨(w.heap.size + 1), 0, none⟩ = some (.int .i64 8) := by rw [cell_at hb]; rfl
    have o1 : w3.cell? ⟨(w.heap.size + 1), 1, none⟩ = some (.string ⟨#[]⟩) := by rw [cell_at hb]; rfl
    have o2 : w3.cell? ⟨(w.heap.size + 1), 2, none⟩ = some (.string ⟨#[]⟩) := by rw [cell_at hb]; rfl
    have o3 : w3.cell? ⟨(w.heap.size + 1), 3, none⟩ = some (.int .i64 0) := by rw [cell_at hb]; rfl
    have o4 : w3.cell? ⟨(w.heap.size + 1), 4, none⟩ = some (.int .i64 0) := by rw [cell_at hb]; rfl
    clear hb
    go_wp2_with fail
    refine (rcheck_any 8 emp emp 0 0).mono ?_
    rw [Hck.out]
    rintro e w4 ⟨rfl, Bh⟩
    have A := hid (A.out.later Bh)
    clear Bh o0 o1 o2 o3 o4 e1 e2
    by_cases hc : ck = 0
    · subst hc
      rw [fail_zero] at HRR
      have hb := A.out.blk (g := (w.heap.size + 1)) (vs := [.int .i64 8, .string ⟨#[]⟩, .string ⟨#[]⟩, .int .i64 0, .int .i64 0]) (t := 35) List.mem_cons_self
      have o0 : w4.cell? ⟨(w.heap.size + 1), 0, none⟩ = some (.int .i64 8) := by rw [cell_at hb]; rfl
      have o1 : w4.cell? ⟨(w.heap.size + 1), 1, none⟩ = some (.string ⟨#[]⟩) := by rw [cell_at hb]; rfl
      have o2 : w4.cell? ⟨(w.heap.size + 1), 2, none⟩ = some (.string ⟨#[]⟩) := by rw [cell_at hb]; rfl
      have o3 : w4.cell? ⟨(w.heap.size + 1), 3, none⟩ = some (.int .i64 0) := by rw [cell_at hb]; rfl
      have o4 : w4.cell? ⟨(w.heap.size + 1), 4, none⟩ = some (.int .i64 0) := by rw [cell_at hb]; rfl
      clear hb
      have A := hid A.out.swap
      have hb := A.out.blk (g := w.heap.size) (vs := [.int .i64 0, .string ⟨#[]⟩, .string ⟨#[]⟩, .int .i64 0, .int .i64 0]) (t := 35) List.mem_cons_self
      have z0 : w4.cell? ⟨w.heap.size, 0, none⟩ = some (.int .i64 0) := by rw [cell_at hb]; rfl
      have zf0 : w4.frozen? ⟨w.heap.size, 0, none⟩ = false := free_at hb 0
      have z1 : w4.cell? ⟨w.heap.size, 1, none⟩ = some (.string ⟨#[]⟩) := by rw [cell_at hb]; rfl
      have zf1 : w4.frozen? ⟨w.heap.size, 1, none⟩ = false := free_at hb 1
      have z2 : w4.cell? ⟨w.heap.size, 2, none⟩ = some (.string ⟨#[]⟩) := by rw [cell_at hb]; rfl
      have zf2 : w4.frozen? ⟨w.heap.size, 2, none⟩ = false := free_at hb 2
      have z3 : w4.cell? ⟨w.heap.size, 3, none⟩ = some (.int .i64 0) := by rw [cell_at hb]; rfl
      have zf3 : w4.frozen? ⟨w.heap.size, 3, none⟩ = false := free_at hb 3
      have z4 : w4.cell? ⟨w.heap.size, 4, none⟩ = some (.int .i64 0) := by rw [cell_at hb]; rfl
      have zf4 : w4.frozen? ⟨w.heap.size, 4, none⟩ = false := free_at hb 4
      clear hb
      have A := hid ((((((A.out.setBlk 0 (.int .i64 8)).setBlk 1 (.string ⟨#[]⟩)).setBlk 2 (.string ⟨#[]⟩)).setBlk 3 (.int .i64 0)).setBlk 4 (.int .i64 0)))
      go_wp2
      refine bodyPost_ret (v := opV 8 emp emp 0 0) (res13 (b := w.heap.size) rfl A.out.1.2.1) rfl ?_
      have A := A.out.tail.tail
      rw [gotV, ← HRR.out, if_pos her.out]
      exact ⟨rfl, A⟩
    · have e1 : (ck == 0) = false := by rw [beq_eq_false_iff_ne]; exact hc
      have e2 : (ck != 0) = true := by simpa using hc
      have hc := hid hc
      go_wp2_with fail
      refine (xfailRd A.out.rev3 her.out ck hc.out).mono ?_
      rw [HRR.out]
      rintro e w5 ⟨rfl, A1⟩
      have A := hid A1.rev3
      clear A1
      have hR : R.err ≠ 0 := by rw [← HRR.out, Rst.fail, if_neg hc.out, her.out, keepE, if_pos rfl]; exact hc.out
      have hR := hid hR
      clear HRR her hc
      have A := hid A.out.swap
      have hb := A.out.blk (g := w.heap.size) (vs := [.int .i64 0, .string ⟨#[]⟩, .string ⟨#[]⟩, .int .i64 0, .int .i64 0]) (t := 35) List.mem_cons_self
      have z0 : w5.cell? ⟨w.heap.size, 0, none⟩ = some (.int .i64 0) := by rw [cell_at hb]; rfl
      have zf0 : w5.frozen? ⟨w.heap.size, 0, none⟩ = false := free_at hb 0
      have z1 : w5.cell? ⟨w.heap.size, 1, none⟩ = some (.string ⟨#[]⟩) := by rw [cell_at hb]; rfl
      have zf1 : w5.frozen? ⟨w.heap.size, 1, none⟩ = false := free_at hb 1
      have z2 : w5.cell? ⟨w.heap.size, 2, none⟩ = some (.string ⟨#[]⟩) := by rw [cell_at hb]; rfl
      have zf2 : w5.frozen? ⟨w.heap.size, 2, none⟩ = false := free_at hb 2
      have z3 : w5.cell? ⟨w.heap.size, 3, none⟩ = some (.int .i64 0) := by rw [cell_at hb]; rfl
      have zf3 : w5.frozen? ⟨w.heap.size, 3, none⟩ = false := free_at hb 3
      have z4 : w5.cell? ⟨w.heap.size, 4, none⟩ = some (.int .i64 0) := by rw [cell_at hb]; rfl
      have zf4 : w5.frozen? ⟨w.heap.size, 4, none⟩ = false := free_at hb 4
      clear hb
      have A := hid ((((((A.out.setBlk 0 (.int .i64 0)).setBlk 1 (.string ⟨#[]⟩)).setBlk 2 (.string ⟨#[]⟩)).setBlk 3 (.int .i64 0)).setBlk 4 (.int .i64 0)))
      go_wp2
      refine bodyPost_ret (v := opV 0 emp emp 0 0) (res13 (b := w.heap.size) rfl A.out.1.2.1) rfl ?_
      have A := A.out.tail.tail
      rw [gotV, if_neg hR.out]
      exact ⟨rfl, A⟩
  · have e1 : (r5.err == 0) = false := by rw [beq_eq_false_iff_ne]; exact her
    have e2 : (r5.err != 0) = true := by simpa using her
    have hx := A.out.rev3.xdead her ck
    rw [HRR.out] at hx
    have A := hid hx.1.rev3
    have hR := hid hx.2
    clear hx her HRR
    have A := hid A.out.swap
    have hb := A.out.blk (g := w.heap.size) (vs := [.int .i64 0, .string ⟨#[]⟩, .string ⟨#[]⟩, .int .i64 0, .int .i64 0]) (t := 35) List.mem_cons_self
    have z0 : w3.cell? ⟨w.heap.size, 0, none⟩ = some (.int .i64 0) := by rw [cell_at hb]; rfl
    have zf0 : w3.frozen? ⟨w.heap.size, 0, none⟩ = false := free_at hb 0
    have z1 : w3.cell? ⟨w.heap.size, 1, none⟩ = some (.string ⟨#[]⟩) := by rw [cell_at hb]; rfl
    have zf1 : w3.frozen? ⟨w.heap.size, 1, none⟩ = false := free_at hb 1
    have z2 : w3.cell? ⟨w.heap.size, 2, none⟩ = some (.string ⟨#[]⟩) := by rw [cell_at hb]; rfl
    have zf2 : w3.frozen? ⟨w.heap.size, 2, none⟩ = false := free_at hb 2
    have z3 : w3.cell? ⟨w.heap.size, 3, none⟩ = some (.int .i64 0) := by rw [cell_at hb]; rfl
    have zf3 : w3.frozen? ⟨w.heap.size, 3, none⟩ = false := free_at hb 3
    have z4 : w3.cell? ⟨w.heap.size, 4, none⟩ = some (.int .i64 0) := by rw [cell_at hb]; rfl
    have zf4 : w3.frozen? ⟨w.heap.size, 4, none⟩ = false := free_at hb 4
    clear hb
    have A := hid ((((((A.out.setBlk 0 (.int .i64 0)).setBlk 1 (.string ⟨#[]⟩)).setBlk 2 (.string ⟨#[]⟩)).setBlk 3 (.int .i64 0)).setBlk 4 (.int .i64 0)))
    go_wp2
    refine bodyPost_ret (v := opV 0 emp emp 0 0) (res13 (b := w.heap.size) rfl A.out.1.2.1) rfl ?_
    have A := A.out.tail.tail
    rw [gotV, if_neg hR.out]
    exact ⟨rfl, A⟩

end Go.Proofs.YtkcepkehgkkkbaaGreatDoor

import Derived.Test.YtkcepkehgkkkbaaGreatDoorJ42
namespace Go.Proofs.YtkcepkehgkkkbaaGreatDoor
open Go.RowKit
set_option linter.unusedVariables false

theorem txtV_length (l : List ByteArray) : (txtV l).length = l.length := by simp [txtV]
theorem All.rev3 {a b c : Comp} {cs : List Comp} {w : World} (h : All (a :: b :: c :: cs) w) : All (c :: b :: a :: cs) w :=
  h.perm ((List.Perm.swap _ _ _).trans ((List.Perm.cons _ (List.Perm.swap _ _ _)).trans (List.Perm.swap _ _ _)))

theorem All.sublist {cs ds : List Comp} {w : World} (hs : ds.Sublist cs) (h : All cs w) : All ds w := by
  induction hs with
  | slnil => exact h
  | cons a _ ih => exact ih h.2.2
  | cons_cons a hs ih => exact ⟨h.1, fun d hd => h.2.1 d (hs.subset hd), ih h.2.2⟩

set_option maxHeartbeats 1600000 in
set_option maxRecDepth 1000000 in
theorem getItems_any {b : Nat} {D : Option Nat} {rv : Value} {r : Rst} {cs : List Comp} {w : World} (h : All (rdC b D rv r :: cs) w) (hp : r.size ≤ 140737488355328) :
    Calls Tryz.prog 63 #[.pointer (some ⟨b, 0, none⟩), .int .i64 8] w fun e w' => ∃ so sc rv', e = .returned (.slice so (((r.num 8).items (r.numV 8).toNat).1).length sc) ∧ All (ownC 9 (.slice so (((r.num 8).items (r.numV 8).toNat).1).length sc) (txtV ((r.num 8).items (r.numV 8).toNat).1) :: rdC b D rv' ((r.num 8).items (r.numV 8).toNat).2 :: cs) w' := by
  have HH := hid h
  have HP := hid hp
  obtain ⟨N, hN⟩ : ∃ N : Nat, Hid (r.numV 8 = (N : Int) ∧ N ≤ 8) := ⟨(r.numV 8).toNat, hid (by
    have h1 := numR_val r.rs 8 13
    have h2 := numR_le r.rs 8 13 (by omega)
    unfold Rst.numV
    omega)⟩
  have eN : (r.numV 8).toNat = N := by rw [hN.out.1]; simp
  rw [eN]
  clear h hp eN
  go_enter Tryz.func63, Tryz.ntmps63
  go_wp2_with fail
  refine (numRd HH.out (by have := HP.out; unfold Rst.size at this; exact this) 8).mono ?_
  rw [hN.out.1]
  rintro e w1 ⟨rfl, rv1, A1⟩
  have A1 := hid A1
  have hN8 := hN.out.2
  clear HH
  obtain ⟨i0, hi, hz0, hz1, hz2⟩ := info_parts Tryz.info9
  go_wp2
  go_loopw [5, 9] (fun vv iv wr => ∃ (k : Nat) (so : Option Addr) (sc : Nat) (rv' : Value), vv = .slice so k sc ∧ iv = .int .i64 (k : Int) ∧ k ≤ N ∧ Hid (All (ownC 9 (.slice so k sc) (txtV ((r.num 8).items k).1) :: rdC b D rv' ((r.num 8).items k).2 :: cs) wr)) (fun vv iv _ => N - (intOf iv).toNat)
  case atStart => exact ⟨0, none, 0, rv1, rfl, rfl, Nat.zero_le _, hid A1.out.addNil⟩
  case round =>
    obtain ⟨k, so, sc, rv', rfl, rfl, hk, AR⟩ := hrel
    clear A1
    by_cases hlt : k < N
    · have el : decide ((k : Int) < (N : Int)) = true := by simpa using hlt
      have HB : Hid (((r.num 8).items k).2.place + ((r.num 8).items k).2.rs.length ≤ 140737488355328) := hid (by
        have h1 := items_size (r.num 8) k
        have h2 := num_size r 8
        have h3 := HP.out
        unfold Rst.size at h1 h2 h3
        omega)
      go_wp2_with fail
      refine (textRd AR.out.swap HB.out 64).mono ?_
      rintro e w2 ⟨rfl, rv2, A2⟩
      have A3 := hid (A2.swap.alloc (.cells #[.string (((r.num 8).items k).2.txtV 64)] 9))
      have hrow : (w2.alloc (.cells #[.string (((r.num 8).items k).2.txtV 64)] 9)).ownsRow 0 9 1 (.slice so k sc) k (txtV ((r.num 8).items k).1) := by
        have h1 : (w2.alloc (.cells #[.string (((r.num 8).items k).2.txtV 64)] 9)).ownsRow 0 9 1 (.slice so k sc) (txtV ((r.num 8).items k).1).length (txtV ((r.num 8).items k).1) := A3.out.1.2.1
        rw [txtV_length, items_len] at h1
        exact h1
      have hnews : ∀ j u, [.string (((r.num 8).items k).2.txtV 64)][j]? = some u → (w2.alloc (.cells #[.string (((r.num 8).items k).2.txtV 64)] 9)).cell? ((⟨w2.heap.size, 0, none⟩ : Addr).add j) = some u := by
        intro j u hu
        rw [Addr.add_lit, cell_at (heap_alloc_new w2 _)]
        cases j with
        | zero => simpa using hu
        | succ j => simp at hu
      have hone : ∀ u ∈ [Value.string (((r.num 8).items k).2.txtV 64)], u.oneCell' = true := by
        intro u hu
        simp only [List.mem_singleton] at hu
        subst hu
        rfl
      clear AR A2
      go_wp2_with (at_builtin; refine wpList_append_own_at _ rfl (.tmp 11) (.tmp 14) 39 rfl 0 9 i0 (.string (.mk #[])) 1 16 Tryz.und39 hi hz0 hz1 hz2 rfl (by decide) _ _ _ rfl hrow ⟨w2.heap.size, 0, none⟩ 1 1 [.string (((r.num 8).items k).2.txtV 64)] rfl rfl hnews hone (by unfold maxLen; omega) (by omega) (by simp) ?_)
      intro v' w3 hown hgr _ hat
      have A4 := A3.out.ownGrow (vs' := txtV ((r.num 8).items (k + 1)).1) (base := 0) (v' := v') (by
        rw [txtV_length, items_len]
        simpa [Rst.items, txtV] using hown) hgr (by simpa using hat)
      obtain ⟨so', sc', rfl⟩ := owns_form hown
      have A4 := hid A4
      clear hown hgr hat A3 hrow hnews hone
      go_wp2
      go_roundw
      case rel => exact ⟨k + 1, so', sc', rv2, rfl, by go_num, by omega, A4⟩
      case measure => simp [intOf]; omega
    · have el : decide ((k : Int) < (N : Int)) = false := by simp; omega
      obtain rfl : k = N := by omega
      go_wp2
      go_ret
      refine ⟨so, sc, rv', by rw [items_len]; rfl, ?_⟩
      rw [items_len]
      exact AR.out

theorem rot4 (a b c d : Comp) (cs : List Comp) : List.Perm (a :: b :: c :: d :: cs) (d :: c :: a :: b :: cs) := by
  have h1 : List.Perm ([a, b] ++ [c, d]) ([c, d] ++ [a, b]) := List.perm_append_comm
  have h2 : List.Perm ([c, d] ++ [a, b]) ([d, c] ++ [a, b]) := (List.Perm.swap d c []).append_right _
  exact (h1.trans h2).append_right cs
theorem rot3 (a b c : Comp) (cs : List Comp) : List.Perm (a :: b :: c :: cs) (c :: a :: b :: cs) := by
  have h1 : List.Perm ([a, b] ++ [c]) ([c] ++ [a, b]) := List.perm_append_comm
  exact h1.append_right cs

/-- A result as it is read. -/
structure Res where
  c : Int
  k : Int
  l : List ByteArray
def Rst.res0 (r : Rst) : Res × Rst :=
  if r.numV 4 = 0 then (⟨0, (r.num 4).numV 1099511627776, (((r.num 4).num 1099511627776).num 8 |>.items (((r.num 4).num 1099511627776).numV 8).toNat).1⟩, (((r.num 4).num 1099511627776).num 8 |>.items (((r.num 4).num 1099511627776).numV 8).toNat).2)
  else (⟨r.numV 4, 0, []⟩, r.num 4)
def Rst.resV (r : Rst) : Res := if r.res0.2.err = 0 then r.res0.1 else ⟨0, 0, []⟩
def Rst.res (r : Rst) : Rst := r.res0.2

theorem res28 {tmps : Array Value} {w : World} {b : Nat} {c k : Int} {s : Value} (ht : tmps.getD 2 undef = .pointer (some ⟨b, 0, none⟩)) (h : w.heap[b]? = some (.cells #[.int .i64 c, .int .i64 k, s] 41 (0, 0))) : (results Tryz.f15 tmps).run Tryz.prog w = .ok (resV c k s) w := by
  have hp' : tmps[2]?.getD undef = .pointer (some ⟨b, 0, none⟩) := by simpa using ht
  have hres : Tryz.f15.results = #[.cell 2 41] := rfl
  have x0 : w.cell? ⟨b, 0, none⟩ = some (.int .i64 c) := by rw [cell_at h]; rfl
  have x1 : w.cell? ⟨b, 1, none⟩ = some (.int .i64 k) := by rw [cell_at h]; rfl
  have x2 : w.cell? ⟨b, 2, none⟩ = some s := by rw [cell_at h]; rfl
  simp only [results, hres]
  go_simp

set_option maxHeartbeats 1600000 in
set_option maxRecDepth 1000000 in
theorem getResult_any {b : Nat} {D : Option Nat} {rv : Value} {r : Rst} {cs : List Comp} {w : World} (h : All (rdC b D rv r :: cs) w) (hp : r.size ≤ 140737488355328) :
    Calls Tryz.prog 15 #[.pointer (some ⟨b, 0, none⟩)] w fun e w' => ∃ so sc rv', e = .returned (resV r.resV.c r.resV.k (.slice so r.resV.l.length sc)) ∧ All (ownC 9 (.slice so r.resV.l.length sc) (txtV r.resV.l) :: rdC b D rv' r.res :: cs) w' := by
  have HH := hid h
  have HP := hid hp
  clear h hp
  go_enter Tryz.func15, Tryz.ntmps15
  go_wp2_with fail
  refine (numRd (HH.out.addBlk [.int .i64 0, .int .i64 0, .slice none 0 0] 41).swap HP.out 4).mono ?_
  rintro e w1 ⟨rfl, rv1, A1⟩
  obtain ⟨c, hc⟩ : ∃ c, Hid (c = r.numV 4) := ⟨_, hid rfl⟩
  rw [← hc.out]
  have A2 := hid ((A1.addBlk [.int .i64 c, .int .i64 0, .slice none 0 0] 41).swap)
  clear HH A1
  by_cases h0 : c = 0
  · have F : Hid (r.res0 = (⟨0, (r.num 4).numV 1099511627776, (((r.num 4).num 1099511627776).num 8 |>.items (((r.num 4).num 1099511627776).numV 8).toNat).1⟩, (((r.num 4).num 1099511627776).num 8 |>.items (((r.num 4).num 1099511627776).numV 8).toNat).2)) := hid (by rw [Rst.res0, if_pos (by rw [← hc.out]; exact h0)])
    subst h0
    go_wp2_with fail
    refine (numRd A2.out (by have h1 := num_size r 4; have h2 := HP.out; unfold Rst.size at *; omega) 1099511627776).mono ?_
    rintro e w2 ⟨rfl, rv2, A3⟩
    obtain ⟨kk, hkk⟩ : ∃ kk, Hid (kk = (r.num 4).numV 1099511627776) := ⟨_, hid rfl⟩
    obtain ⟨r2, hr2⟩ : ∃ r2, Hid (r2 = (r.num 4).num 1099511627776) := ⟨_, hid rfl⟩
    rw [← hkk.out, ← hr2.out] at F
    rw [← hr2.out] at A3
    rw [← hkk.out]
    have A3 := hid A3
    have A4 := hid (A3.out.swap.setBlk 1 (.int .i64 kk)).swap
    clear A2
    have erx : w2.heap[w1.heap.size]? = some (.cells #[.int .i64 0, .int .i64 0, .slice none 0 0] 41 (0, 0)) := A3.out.tail.1.2.1
    have x0 : w2.cell? ⟨w1.heap.size, 0, none⟩ = some (.int .i64 0) := by rw [cell_at erx]; rfl
    have x1 : w2.cell? ⟨w1.heap.size, 1, none⟩ = some (.int .i64 0) := by rw [cell_at erx]; rfl
    have x2 : w2.cell? ⟨w1.heap.size, 2, none⟩ = some (.slice none 0 0) := by rw [cell_at erx]; rfl
    have fx0 : w2.frozen? ⟨w1.heap.size, 0, none⟩ = false := free_at erx 0
    have fx1 : w2.frozen? ⟨w1.heap.size, 1, none⟩ = false := free_at erx 1
    have fx2 : w2.frozen? ⟨w1.heap.size, 2, none⟩ = false := free_at erx 2
    clear erx
    clear A3
    go_wp2_with fail
    refine (getItems_any A4.out (by have h1 := num_size r 4; have h3 := num_size (r.num 4) 1099511627776; have h2 := HP.out; rw [hr2.out]; omega)).mono ?_
    obtain ⟨L, hL⟩ : ∃ L, Hid (L = ((r2.num 8).items (r2.numV 8).toNat).1) := ⟨_, hid rfl⟩
    obtain ⟨r3, hr3⟩ : ∃ r3, Hid (r3 = ((r2.num 8).items (r2.numV 8).toNat).2) := ⟨_, hid rfl⟩
    rw [← hL.out, ← hr3.out] at F ⊢
    rintro e w3 ⟨so, sc, rv3, rfl, A5⟩
    have A5 := hid A5
    obtain ⟨nl, hnl⟩ : ∃ nl, Hid (nl = L.length) := ⟨_, hid rfl⟩
    rw [← hnl.out] at A5 ⊢
    have A6 := hid ((A5.out.rev3.setBlk 2 (.slice so nl sc)).swap)
    clear A4 x0 x1 x2 fx0 fx1 fx2
    have erx : w3.heap[w1.heap.size]? = some (.cells #[.int .i64 0, .int .i64 kk, .slice none 0 0] 41 (0, 0)) := A5.out.tail.tail.1.2.1
    have x0 : w3.cell? ⟨w1.heap.size, 0, none⟩ = some (.int .i64 0) := by rw [cell_at erx]; rfl
    have x1 : w3.cell? ⟨w1.heap.size, 1, none⟩ = some (.int .i64 kk) := by rw [cell_at erx]; rfl
    have x2 : w3.cell? ⟨w1.heap.size, 2, none⟩ = some (.slice none 0 0) := by rw [cell_at erx]; rfl
    have fx0 : w3.frozen? ⟨w1.heap.size, 0, none⟩ = false := free_at erx 0
    have fx1 : w3.frozen? ⟨w1.heap.size, 1, none⟩ = false := free_at erx 1
    have fx2 : w3.frozen? ⟨w1.heap.size, 2, none⟩ = false := free_at erx 2
    clear erx
    clear A5
    go_wp2_with fail
    refine (wholeRd A6.out).mono ?_
    rintro e w4 ⟨rfl, A7⟩
    have A7 := hid A7
    clear A6 x0 x1 x2 fx0 fx1 fx2
    have A7 : Hid (All (rdC b D rv3 r3 :: blkC w1.heap.size [.int .i64 0, .int .i64 kk, .slice so nl sc] 41 :: ownC 9 (.slice so nl sc) (txtV L) :: blkC w.heap.size [.int .i64 0, .int .i64 0, .slice none 0 0] 41 :: cs) w4) := A7
    have erx : w4.heap[w1.heap.size]? = some (.cells #[.int .i64 0, .int .i64 kk, .slice so nl sc] 41 (0, 0)) := A7.out.tail.1.2.1
    have x0 : w4.cell? ⟨w1.heap.size, 0, none⟩ = some (.int .i64 0) := by rw [cell_at erx]; rfl
    have x1 : w4.cell? ⟨w1.heap.size, 1, none⟩ = some (.int .i64 kk) := by rw [cell_at erx]; rfl
    have x2 : w4.cell? ⟨w1.heap.size, 2, none⟩ = some (.slice so nl sc) := by rw [cell_at erx]; rfl
    clear erx
    have err : w4.heap[w.heap.size]? = some (.cells #[.int .i64 0, .int .i64 0, .slice none 0 0] 41 (0, 0)) := A7.out.tail.tail.tail.1.2.1
    have r0 : w4.cell? ⟨w.heap.size, 0, none⟩ = some (.int .i64 0) := by rw [cell_at err]; rfl
    have r1 : w4.cell? ⟨w.heap.size, 1, none⟩ = some (.int .i64 0) := by rw [cell_at err]; rfl
    have r2 : w4.cell? ⟨w.heap.size, 2, none⟩ = some (.slice none 0 0) := by rw [cell_at err]; rfl
    have fr0 : w4.frozen? ⟨w.heap.size, 0, none⟩ = false := free_at err 0
    have fr1 : w4.frozen? ⟨w.heap.size, 1, none⟩ = false := free_at err 1
    have fr2 : w4.frozen? ⟨w.heap.size, 2, none⟩ = false := free_at err 2
    clear err
    by_cases he : r3.err = 0
    · have ee : (r3.err == 0) = true := by simpa using he
      have V : Hid (r.resV = ⟨0, kk, L⟩ ∧ r.res = r3) := hid ⟨by rw [Rst.resV, F.out, if_pos he], by rw [Rst.res, F.out]⟩
      rw [ee]
      clear he ee F
      go_wp2
      have A8 := ((((A7.out.perm (rot4 _ _ _ _ cs)).setBlk 0 (.int .i64 0)).setBlk 1 (.int .i64 kk)).setBlk 2 (.slice so nl sc))
      refine bodyPost_ret (v := resV 0 kk (.slice so nl sc)) (res28 (b := w.heap.size) rfl A8.1.2.1) rfl ?_
      refine ⟨so, sc, rv3, by rw [V.out.1, hnl.out], ?_⟩
      rw [V.out.1, V.out.2, ← hnl.out]
      exact A8.tail.sublist (.cons_cons _ (.cons_cons _ (.cons _ (.refl _))))
    · have ee : (r3.err == 0) = false := by simpa using he
      have V : Hid (r.resV = ⟨0, 0, []⟩ ∧ r.res = r3) := hid ⟨by rw [Rst.resV, F.out, if_neg he], by rw [Rst.res, F.out]⟩
      rw [ee]
      clear he ee F
      go_wp2
      have A8 := ((((A7.out.perm (rot4 _ _ _ _ cs)).setBlk 0 (.int .i64 0)).setBlk 1 (.int .i64 0)).setBlk 2 (.slice none 0 0))
      refine bodyPost_ret (v := resV 0 0 (.slice none 0 0)) (res28 (b := w.heap.size) rfl A8.1.2.1) rfl ?_
      refine ⟨none, 0, rv3, by rw [V.out.1]; rfl, ?_⟩
      rw [V.out.1, V.out.2]
      exact All.addNil (A8.tail.sublist (.cons _ (.cons_cons _ (.cons _ (.refl _)))))
  · have F : Hid (r.res0 = (⟨c, 0, []⟩, r.num 4)) := hid (by rw [Rst.res0, if_neg (by rw [← hc.out]; exact h0), hc.out])
    have ec : (c == 0) = false := by simpa using h0
    go_wp2_with fail
    refine (wholeRd A2.out).mono ?_
    rintro e w4 ⟨rfl, A7⟩
    have A7 := hid A7
    clear A2
    have erx : w4.heap[w1.heap.size]? = some (.cells #[.int .i64 c, .int .i64 0, .slice none 0 0] 41 (0, 0)) := A7.out.tail.1.2.1
    have x0 : w4.cell? ⟨w1.heap.size, 0, none⟩ = some (.int .i64 c) := by rw [cell_at erx]; rfl
    have x1 : w4.cell? ⟨w1.heap.size, 1, none⟩ = some (.int .i64 0) := by rw [cell_at erx]; rfl
    have x2 : w4.cell? ⟨w1.heap.size, 2, none⟩ = some (.slice none 0 0) := by rw [cell_at erx]; rfl
    clear erx
    have err : w4.heap[w.heap.size]? = some (.cells #[.int .i64 0, .int .i64 0, .slice none 0 0] 41 (0, 0)) := A7.out.tail.tail.1.2.1
    have r0 : w4.cell? ⟨w.heap.size, 0, none⟩ = some (.int .i64 0) := by rw [cell_at err]; rfl
    have r1 : w4.cell? ⟨w.heap.size, 1, none⟩ = some (.int .i64 0) := by rw [cell_at err]; rfl
    have r2 : w4.cell? ⟨w.heap.size, 2, none⟩ = some (.slice none 0 0) := by rw [cell_at err]; rfl
    have fr0 : w4.frozen? ⟨w.heap.size, 0, none⟩ = false := free_at err 0
    have fr1 : w4.frozen? ⟨w.heap.size, 1, none⟩ = false := free_at err 1
    have fr2 : w4.frozen? ⟨w.heap.size, 2, none⟩ = false := free_at err 2
    clear err
    by_cases he : (r.num 4).err = 0
    · have ee : ((r.num 4).err == 0) = true := by simpa using he
      have V : Hid (r.resV = ⟨c, 0, []⟩ ∧ r.res = r.num 4) := hid ⟨by rw [Rst.resV, F.out, if_pos he], by rw [Rst.res, F.out]⟩
      rw [ee]
      clear he ee F
      go_wp2
      have A8 := ((((A7.out.perm (rot3 _ _ _ cs)).setBlk 0 (.int .i64 c)).setBlk 1 (.int .i64 0)).setBlk 2 (.slice none 0 0))
      refine bodyPost_ret (v := resV c 0 (.slice none 0 0)) (res28 (b := w.heap.size) rfl A8.1.2.1) rfl ?_
      refine ⟨none, 0, rv1, by rw [V.out.1]; rfl, ?_⟩
      rw [V.out.1, V.out.2]
      exact All.addNil (A8.tail.sublist (.cons_cons _ (.cons _ (.refl _))))
    · have ee : ((r.num 4).err == 0) = false := by simpa using he
      have V : Hid (r.resV = ⟨0, 0, []⟩ ∧ r.res = r.num 4) := hid ⟨by rw [Rst.resV, F.out, if_neg he], by rw [Rst.res, F.out]⟩
      rw [ee]
      clear he ee F
      go_wp2
      have A8 := ((((A7.out.perm (rot3 _ _ _ cs)).setBlk 0 (.int .i64 0)).setBlk 1 (.int .i64 0)).setBlk 2 (.slice none 0 0))
      refine bodyPost_ret (v := resV 0 0 (.slice none 0 0)) (res28 (b := w.heap.size) rfl A8.1.2.1) rfl ?_
      refine ⟨none, 0, rv1, by rw [V.out.1]; rfl, ?_⟩
      rw [V.out.1, V.out.2]
      exact All.addNil (A8.tail.sublist (.cons_cons _ (.cons _ (.refl _))))

end Go.Proofs.YtkcepkehgkkkbaaGreatDoor

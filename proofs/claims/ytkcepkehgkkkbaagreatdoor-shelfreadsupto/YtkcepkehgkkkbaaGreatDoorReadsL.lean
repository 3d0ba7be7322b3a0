import Derived.Test.YtkcepkehgkkkbaaGreatDoorOpB
import Derived.Test.YtkcepkehgkkkbaaGreatDoorShvD
import Derived.Test.YtkcepkehgkkkbaaGreatDoorJ22
import Derived.Test.YtkcepkehgkkkbaaGreatDoorJ13
namespace Go.Proofs.YtkcepkehgkkkbaaGreatDoor
open Go.RowKit
set_option linter.unusedVariables false

/-- Numbers that came in. -/
def KsAt (w : World) (v : Value) (ks : List Int) : Prop := ∃ ao c, v = .slice ao ks.length c ∧ ∀ (i : Nat) (k : Int), ks[i]? = some k → ∃ g o, ao = some ⟨g, o, none⟩ ∧ g < w.heap.size ∧ w.cell? ⟨g, o + i, none⟩ = some (.int .i64 k)
theorem KsAt.form {w : World} {v : Value} {ks : List Int} (h : KsAt w v ks) : ∃ ao c, v = .slice ao ks.length c := by obtain ⟨ao, c, e, _⟩ := h; exact ⟨ao, c, e⟩
theorem KsAt.later {w w' : World} {v : Value} {ks : List Int} (h : KsAt w v ks) (hb : Below w.heap.size w w') : KsAt w' v ks := by
  obtain ⟨ao, c, e, hx⟩ := h
  refine ⟨ao, c, e, fun i k hk => ?_⟩
  obtain ⟨g, o, ea, hg, hc⟩ := hx i k hk
  exact ⟨g, o, ea, Nat.lt_of_lt_of_le hg hb.size, cell_under hb hg hc⟩
theorem KsAt.at {w : World} {ao : Option Addr} {n c : Nat} {ks : List Int} (h : KsAt w (.slice ao n c) ks) {i : Nat} {k : Int} (hk : ks[i]? = some k) : ∃ g o, ao = some ⟨g, o, none⟩ ∧ w.cell? ⟨g, o + i, none⟩ = some (.int .i64 k) := by
  obtain ⟨ao', c', e, hx⟩ := h
  simp only [Value.slice.injEq] at e
  obtain ⟨rfl, _, _⟩ := e
  obtain ⟨g, o, ea, hg, hc⟩ := hx i k hk
  exact ⟨g, o, ea, hc⟩

theorem res_size (r : Rst) : r.res.size ≤ r.size := by
  unfold Rst.res Rst.res0
  split
  · exact Nat.le_trans (items_size _ _) (Nat.le_trans (num_size _ _) (Nat.le_trans (num_size _ _) (num_size _ _)))
  · exact num_size _ _
theorem res_few (r : Rst) : r.resV.l.length ≤ 8 := by
  unfold Rst.resV
  split
  · unfold Rst.res0
    split
    · simp only [items_len]
      have h1 := numR_val (((r.num 4).num 1099511627776)).rs 8 13
      have h2 := numR_le (((r.num 4).num 1099511627776)).rs 8 13 (by omega)
      show (((r.num 4).num 1099511627776).numV 8).toNat ≤ 8
      have h3 : ((r.num 4).num 1099511627776).numV 8 ≤ 8 := h2
      omega
    · simp
  · simp
theorem gotV_op (R : Rst) (k : Int) (nm tx : ByteArray) (n m : Int) : ∃ (k2 : Int) (nm2 tx2 : ByteArray) (n2 m2 : Int), gotV R k nm tx n m = opV k2 nm2 tx2 n2 m2 := by
  unfold gotV
  split <;> exact ⟨_, _, _, _, _, rfl⟩
theorem All.back2 {x y : Comp} {L cs : List Comp} {w : World} (h : All (x :: y :: (L ++ cs)) w) : All (L ++ (x :: y :: cs)) w := h.perm (by
  have := perm_by 4 [[x], [y], L, cs] [2, 0, 1, 3] rfl (by decide)
  simpa [List.getD] using this)
theorem All.front2 {x y : Comp} {L cs : List Comp} {w : World} (h : All (L ++ (x :: y :: cs)) w) : All (x :: y :: (L ++ cs)) w := h.perm (by
  have := perm_by 4 [[x], [y], L, cs] [2, 0, 1, 3] rfl (by decide)
  exact (by simpa [List.getD] using this.symm))

/-- The law at work: both readers stand alike, and what was handed out reads as it must. -/
structure Rl (w : World) (b : Nat) (D : Option Nat) (b2 : Nat) (v2 : Value) (S : Nat) (cs : List Comp) (l : List UInt8) (i : Nat) (rv : Value) (r : Rst) (ov wv : Value) (PA PM : List En) : Prop where
  all : All (rdC b D rv r :: xrC b2 v2 l r :: (shL S ov wv PA PM ++ cs)) w
  ok : ShOk PA PM
  few : PA.length ≤ i
  size : r.size ≤ l.length
theorem Rl.hold {w : World} {b : Nat} {D : Option Nat} {b2 : Nat} {v2 : Value} {S : Nat} {cs : List Comp} {l : List UInt8} {i : Nat} {rv : Value} {r : Rst} {ov wv : Value} {PA PM : List En} (h : Rl w b D b2 v2 S cs l i rv r ov wv PA PM) (hi : i ≤ 1048576) : Calls Tryz.prog 21 #[.pointer (some ⟨S, 0, none⟩)] w fun e w' => e = .returned (.bool true) ∧ ∃ q, w' = w.drewN q :=
  holds_sh h.all.back2 h.ok (by have := h.few; omega)

set_option maxHeartbeats 12800000 in
set_option maxRecDepth 1000000 in
theorem reads_any {w : World} (hT : Tab w) {s t : Value} {l : List UInt8} {ks : List Int} (hs : ReadsW w s l) (hk : KsAt w t ks) (hl : l.length ≤ 1048576) (hkl : ks.length ≤ 1048576) :
    Calls Tryz.prog 3 #[s, t] w fun e w' => e = .returned (.bool true) ∧ Below w.heap.size w w' := by
  obtain ⟨sa, sc, rfl⟩ := hs.form
  obtain ⟨ka, kc, rfl⟩ := hk.form
  have HT := hid hT
  have HS := hid hs
  have HK := hid hk
  have A := hid (All.came w)
  clear hT hs hk
  obtain ⟨n, hn⟩ : ∃ n, Hid (n = l.length) := ⟨_, hid rfl⟩
  obtain ⟨nk, hnk⟩ : ∃ n, Hid (n = ks.length) := ⟨_, hid rfl⟩
  rw [← hn.out] at HS hl ⊢
  rw [← hnk.out] at HK hkl ⊢
  go_enter Tryz.func3, Tryz.ntmps3
  go_wp2_with fail
  refine (shown_any HT.out).mono ?_
  rintro e w1 ⟨rfl, B1⟩
  have A := hid (A.out.later B1)
  clear B1
  go_wp2_with fail
  refine (lent_any A.out (HS.out.below (A.out.into (by simp))) (by have := hn.out; omega)).mono ?_
  rw [← hn.out]
  rintro e w2 ⟨la, lc, rfl, A2⟩
  have A := hid A2
  clear A2
  have hown : w2.ownsRow 0 5 1 (.slice la (n + 8) lc) (cellsB (lentB l 8)).length (cellsB (lentB l 8)) := A.out.1.2.1
  have hcap := (owns_len hown).2
  rw [cellsB_length, lentB_len, ← hn.out] at hcap
  have hcell : ∃ g, la = some ⟨g, 0, none⟩ := by
    obtain ⟨g, e, _⟩ := owns_at (k := 0) (u := .int .u8 (((lentB l 8).getD 0 0).toNat : Int)) hown (by
      have : 0 < (lentB l 8).length := by rw [lentB_len]; omega
      simp [cellsB, List.getD, this])
    exact ⟨g, e⟩
  obtain ⟨g, rfl⟩ := hcell
  have RA : Hid (Reads w2 (.slice (some ⟨g, 0, none⟩) n lc) l) := hid (by
    have hR := Reads.of_owns (l := lentB l 8) (by rw [cellsB_length] at hown; exact hown)
    obtain ⟨ao, c, e, h1, h2⟩ := hR
    simp only [Value.slice.injEq] at e
    obtain ⟨rfl, _, rfl⟩ := e
    refine ⟨_, lc, by rw [hn.out], by rw [← hn.out]; omega, Or.inr ?_⟩
    rcases h2 with ⟨h2, _⟩ | ⟨g', o, e, hg, hc⟩
    · simp at h2
    · refine ⟨g', o, e, hg, fun j u hu => hc j u ?_⟩
      have hj := (List.getElem?_eq_some_iff.1 hu).1
      rw [lentB, cellsB_append, List.getElem?_append_left hj]
      exact hu)
  clear hown
  go_wp2_with fail
  refine (newR A.out (Or.inl RA.out) (by rw [← hn.out]; omega)).mono ?_
  rintro e w3 ⟨b, D, rv, rfl, A3, B3⟩
  have A := hid A3
  clear A3 B3 RA
  go_wp2_with fail
  refine (xnewr_any (HS.out.below (A.out.into (by simp))) (by rw [← hn.out]; omega)).mono ?_
  rintro e w4 ⟨b2, v2, rfl, h2, h3, h4, h5⟩
  have A4 := A.out.add (Fr.below h3) (xrC_good b2 v2 l ⟨l, 0, 0⟩) h2 (fun k hk => by
    simp only [xrC, List.mem_cons, Option.mem_toList] at hk
    rcases hk with rfl | hk
    · exact ⟨h4, h2.1.lt⟩
    · exact ⟨h5 k hk, h2.1.own_lt k hk⟩)
  have A := hid A4
  clear A4 h2 h3 h4 h5
  have M0 : Hid (Rl (w4.alloc (.cells #[.slice none 0 0, .slice none 0 0] 32)) b D b2 v2 w4.heap.size [ownC 5 (.slice (some ⟨g, 0, none⟩) (n + 8) lc) (cellsB (lentB l 8)), inC w] l 0 rv ⟨l, 0, 0⟩ (.slice none 0 0) (.slice none 0 0) [] []) := hid (by
    refine ⟨?_, ⟨rfl, fun e he => by simp at he⟩, by simp, by simp [Rst.size]⟩
    have h1 := ((A.out.addBlk [.slice none 0 0, .slice none 0 0] 32).addNil (e := 39)).addNil (e := 39)
    refine h1.perm ?_
    have := perm_by 6 [[ownC 39 (.slice none 0 0) []], [ownC 39 (.slice none 0 0) []], [blkC w4.heap.size [.slice none 0 0, .slice none 0 0] 32], [xrC b2 v2 l ⟨l, 0, 0⟩], [rdC b D rv ⟨l, 0, 0⟩], [ownC 5 (.slice (some ⟨g, 0, none⟩) (n + 8) lc) (cellsB (lentB l 8)), inC w]] [4, 3, 2, 0, 1, 5] rfl (by decide)
    simpa [shL, bxL, List.getD] using this)
  clear A
  go_wp2
  generalize w4.alloc (.cells #[.slice none 0 0, .slice none 0 0] 32) = w5 at M0 ⊢
  generalize w4.heap.size = S at M0 ⊢
  obtain ⟨CS, hCS⟩ : ∃ CS, Hid (CS = [ownC 5 (.slice (some ⟨g, 0, none⟩) (n + 8) lc) (cellsB (lentB l 8)), inC w]) := ⟨_, hid rfl⟩
  rw [← hCS.out] at M0
  have hin : Hid (∀ (W : World) (cs : List Comp), All cs W → inC w ∈ cs → Tab W ∧ Below w.heap.size w W) := hid (fun W cs h hm => ⟨HT.out.below (h.into hm), h.into hm⟩)
  go_loopw [9] (fun iv wr => ∃ (i : Nat) (rv : Value) (r : Rst) (ov wv : Value) (PA PM : List En), i ≤ nk ∧ iv = .int .i64 (i : Int) ∧ Hid (Rl wr b D b2 v2 S CS l i rv r ov wv PA PM)) (fun iv _ => nk - (intOf iv).toNat)
  case atStart => exact ⟨0, _, _, _, _, _, _, by omega, rfl, M0⟩
  case round =>
    clear M0
    obtain ⟨i, rv, r, ov, wv, PA, PM, hi, rfl, hrel⟩ := hrel
    by_cases hlt : i < nk
    · obtain ⟨kk, hkk⟩ : ∃ kk, ks[i]? = some kk := ⟨_, List.getElem?_eq_getElem (by rw [← hnk.out]; exact hlt)⟩
      have hmem : inC w ∈ rdC b D rv r :: xrC b2 v2 l r :: (shL S ov wv PA PM ++ CS) := by rw [hCS.out]; simp
      have hBw := (hin.out _ _ hrel.out.all hmem).2
      obtain ⟨kg, ko, rfl, k0⟩ := (HK.out.later hBw).at hkk
      have hp : Hid (r.size ≤ 140737488355328) := hid (by have := hrel.out.size; have := hn.out; omega)
      have hB : Hid (l.length ≤ 140737488355328) := hid (by have := hn.out; omega)
      have A := hid hrel.out.all
      clear hkk hBw hmem
      by_cases hk0 : kk = 0
      · subst hk0
        obtain ⟨nv, hnv⟩ : ∃ nv, Hid (nv = r.numV 1099511627776) := ⟨_, hid rfl⟩
        have hb0 : (nv != nv) = false := by simp
        go_wp2_with fail
        refine (numRd A.out hp.out 1099511627776).mono ?_
        rw [← hnv.out]
        rintro e wx ⟨rfl, rv1, A1⟩
        have A := hid A1.swap
        clear A1 k0
        go_wp2_with fail
        refine (xnumRd A.out hB.out 1099511627776).mono ?_
        rw [← hnv.out]
        rintro e wy ⟨rfl, A1⟩
        have A := hid A1.swap
        clear A1
        have ML := hid (Rl.mk (i := i + 1) A.out hrel.out.ok (by have := hrel.out.few; omega) (Nat.le_trans (num_size _ _) hrel.out.size))
        obtain ⟨er, her⟩ : ∃ er, Hid (er = (r.num 1099511627776).err) := ⟨_, hid rfl⟩
        obtain ⟨pl, hpl⟩ : ∃ pl, Hid (pl = (r.num 1099511627776).place) := ⟨_, hid rfl⟩
        have hb1 : (er != er) = false := by simp
        have hb2 : ((pl : Int) != (pl : Int)) = false := by simp
        clear A
        go_wp2_with fail
        refine (errRd ML.out.all).mono ?_
        rw [← her.out, ← hpl.out]
        rintro e wa ⟨rfl, A1⟩
        have ML := hid (Rl.mk A1 ML.out.ok ML.out.few ML.out.size)
        clear A1
        go_wp2_with fail
        refine (xerrRd ML.out.all.swap).mono ?_
        rw [← her.out, ← hpl.out]
        rintro e wb ⟨rfl, A1⟩
        have ML := hid (Rl.mk A1.swap ML.out.ok ML.out.few ML.out.size)
        clear A1
        have HC := hid (ML.out.hold (by omega))
        go_wp2_with fail
        refine HC.out.mono ?_
        rintro e wc ⟨rfl, q, rfl⟩
        have ML := hid (Rl.mk (ML.out.all.drewN q) ML.out.ok ML.out.few ML.out.size)
        clear HC hb1 hb2 her hpl
        go_wp2
        go_roundw
        case rel => exact ⟨i + 1, _, _, _, _, _, _, by omega, by go_num, ML⟩
        case measure => simp [intOf]; omega
      · have hk0' : (kk == 0) = false := by simpa using hk0
        by_cases hk1 : kk = 1
        · subst hk1
          obtain ⟨k, nm, tx, m1, m2, R, hR, C1, C2⟩ := op_both r l hp.out hB.out
          obtain ⟨k2, nm2, tx2, n2, m3, hg⟩ := gotV_op R k nm tx m1 m2
          simp only [hg] at C1 C2
          have C1 := hid (C1 A.out (fun w' h' => (hin.out _ _ h' (by rw [hCS.out]; simp)).1))
          have C2 : Hid (∀ (W : World) (cs : List Comp), All (xrC b2 v2 l r :: cs) W → Calls Tryz.prog 13 #[.pointer (some ⟨b2, 0, none⟩)] W fun e w' => e = .returned (opV k2 nm2 tx2 n2 m3) ∧ All (xrC b2 v2 l R :: cs) w') := hid (fun W cs h => C2 h)
          clear hg hk0 hk0'
          go_wp2_with fail
          refine C1.out.mono ?_
          rintro e wx ⟨rfl, rv1, A1⟩
          have A := hid ((A1.addBlk [.int .i64 k2, .string nm2, .string tx2, .int .i64 n2, .int .i64 m3] 35).rev3)
          clear A1 C1 k0
          go_wp2_with fail
          refine (C2.out _ _ A.out).mono ?_
          rintro e wy ⟨rfl, A1⟩
          have A := hid (A1.addBlk [.int .i64 k2, .string nm2, .string tx2, .int .i64 n2, .int .i64 m3] 35)
          clear A1 C2
          have hb := A.out.blk (g := wx.heap.size) (vs := [.int .i64 k2, .string nm2, .string tx2, .int .i64 n2, .int .i64 m3]) (t := 35) (by simp)
          have hb' := A.out.blk (g := wy.heap.size) (vs := [.int .i64 k2, .string nm2, .string tx2, .int .i64 n2, .int .i64 m3]) (t := 35) (by simp)
          generalize hwz : wy.alloc (.cells [Value.int .i64 k2, .string nm2, .string tx2, .int .i64 n2, .int .i64 m3].toArray 35) = wz at A hb hb'
          have o0 : wz.cell? ⟨wx.heap.size, 0, none⟩ = some (.int .i64 k2) := by rw [cell_at hb]; rfl
          have p0 : wz.cell? ⟨wy.heap.size, 0, none⟩ = some (.int .i64 k2) := by rw [cell_at hb']; rfl
          have o1 : wz.cell? ⟨wx.heap.size, 1, none⟩ = some (.string nm2) := by rw [cell_at hb]; rfl
          have p1 : wz.cell? ⟨wy.heap.size, 1, none⟩ = some (.string nm2) := by rw [cell_at hb']; rfl
          have o2 : wz.cell? ⟨wx.heap.size, 2, none⟩ = some (.string tx2) := by rw [cell_at hb]; rfl
          have p2 : wz.cell? ⟨wy.heap.size, 2, none⟩ = some (.string tx2) := by rw [cell_at hb']; rfl
          have o3 : wz.cell? ⟨wx.heap.size, 3, none⟩ = some (.int .i64 n2) := by rw [cell_at hb]; rfl
          have p3 : wz.cell? ⟨wy.heap.size, 3, none⟩ = some (.int .i64 n2) := by rw [cell_at hb']; rfl
          have o4 : wz.cell? ⟨wx.heap.size, 4, none⟩ = some (.int .i64 m3) := by rw [cell_at hb]; rfl
          have p4 : wz.cell? ⟨wy.heap.size, 4, none⟩ = some (.int .i64 m3) := by rw [cell_at hb']; rfl
          clear hb hb'
          have hwz' : wy.alloc (.cells #[.int .i64 k2, .string nm2, .string tx2, .int .i64 n2, .int .i64 m3] 35) = wz := hwz
          clear hwz
          go_wp2_with fail
          refine (sameOp_true k2 nm2 tx2 n2 m3).mono ?_
          rintro e wv1 ⟨rfl, Bh⟩
          have A := hid (((A.out.later Bh).tail.rev3.tail.swap).swap)
          clear Bh o0 o1 o2 o3 o4 p0 p1 p2 p3 p4 hwz'
          have A := hid (show All (rdC b D rv1 R :: xrC b2 v2 l R :: (shL S ov wv PA PM ++ CS)) wv1 from A.out)
          have ML := hid (Rl.mk (i := i + 1) A.out hrel.out.ok (by have := hrel.out.few; omega) (Nat.le_trans hR hrel.out.size))
          obtain ⟨er, her⟩ : ∃ er, Hid (er = (R).err) := ⟨_, hid rfl⟩
          obtain ⟨pl, hpl⟩ : ∃ pl, Hid (pl = (R).place) := ⟨_, hid rfl⟩
          have hb1 : (er != er) = false := by simp
          have hb2 : ((pl : Int) != (pl : Int)) = false := by simp
          clear A
          go_wp2_with fail
          refine (errRd ML.out.all).mono ?_
          rw [← her.out, ← hpl.out]
          rintro e wa ⟨rfl, A1⟩
          have ML := hid (Rl.mk A1 ML.out.ok ML.out.few ML.out.size)
          clear A1
          go_wp2_with fail
          refine (xerrRd ML.out.all.swap).mono ?_
          rw [← her.out, ← hpl.out]
          rintro e wb ⟨rfl, A1⟩
          have ML := hid (Rl.mk A1.swap ML.out.ok ML.out.few ML.out.size)
          clear A1
          have HC := hid (ML.out.hold (by omega))
          go_wp2_with fail
          refine HC.out.mono ?_
          rintro e wc ⟨rfl, q, rfl⟩
          have ML := hid (Rl.mk (ML.out.all.drewN q) ML.out.ok ML.out.few ML.out.size)
          clear HC hb1 hb2 her hpl
          go_wp2
          go_roundw
          case rel => exact ⟨i + 1, _, _, _, _, _, _, by omega, by go_num, ML⟩
          case measure => simp [intOf]; omega
        · have hk1' : (kk == 1) = false := by simpa using hk1
          obtain ⟨rc, rk, hrc⟩ : ∃ rc rk, Hid (rc = r.resV.c ∧ rk = r.resV.k) := ⟨_, _, hid ⟨rfl, rfl⟩⟩
          obtain ⟨L, hL⟩ : ∃ L, Hid (L = r.resV.l) := ⟨_, hid rfl⟩
          obtain ⟨nL, hnL⟩ : ∃ n, Hid (n = L.length) := ⟨_, hid rfl⟩
          have hL8 : Hid (L.length ≤ 8) := hid (by rw [hL.out]; exact res_few r)
          go_wp2_with fail
          refine (getResult_any A.out hp.out).mono ?_
          rw [← hL.out, ← hrc.out.1, ← hrc.out.2, ← hnL.out]
          rintro e wx ⟨so, sc1, rv1, rfl, A1⟩
          have A := hid ((A1.addBlk [.int .i64 rc, .int .i64 rk, .slice so nL sc1] 41).perm (ds := xrC b2 v2 l r :: blkC wx.heap.size [.int .i64 rc, .int .i64 rk, .slice so nL sc1] 41 :: ownC 9 (.slice so nL sc1) (txtV L) :: rdC b D rv1 r.res :: (shL S ov wv PA PM ++ CS)) (by
            have := perm_by 5 [[blkC wx.heap.size [.int .i64 rc, .int .i64 rk, .slice so nL sc1] 41], [ownC 9 (.slice so nL sc1) (txtV L)], [rdC b D rv1 r.res], [xrC b2 v2 l r], shL S ov wv PA PM ++ CS] [3, 0, 1, 2, 4] rfl (by decide)
            simpa [List.getD] using this))
          clear A1 k0
          go_wp2_with fail
          refine (xgetResult_any A.out hB.out).mono ?_
          rw [← hL.out, ← hrc.out.1, ← hrc.out.2, ← hnL.out]
          rintro e wy ⟨so2, sc2, rfl, A1⟩
          have A := hid (A1.addBlk [.int .i64 rc, .int .i64 rk, .slice so2 nL sc2] 41)
          clear A1
          have hb := A.out.blk (g := wx.heap.size) (vs := [.int .i64 rc, .int .i64 rk, .slice so nL sc1]) (t := 41) (by simp)
          have hb' := A.out.blk (g := wy.heap.size) (vs := [.int .i64 rc, .int .i64 rk, .slice so2 nL sc2]) (t := 41) (by simp)
          generalize hwz : wy.alloc (.cells [Value.int .i64 rc, .int .i64 rk, .slice so2 nL sc2].toArray 41) = wz at A hb hb'
          have hwz' : wy.alloc (.cells #[.int .i64 rc, .int .i64 rk, .slice so2 nL sc2] 41) = wz := hwz
          clear hwz
          have T1 : Txts wz (.slice so nL sc1) L := Txts.of_own ((A.out.mem (c := ownC 9 (.slice so nL sc1) (txtV L)) (by simp)).2.1 : wz.ownsRow 0 9 1 (.slice so nL sc1) (txtV L).length (txtV L))
          have T2 : Txts wz (.slice so2 nL sc2) L := Txts.of_own ((A.out.mem (c := ownC 9 (.slice so2 nL sc2) (txtV L)) (by simp)).2.1 : wz.ownsRow 0 9 1 (.slice so2 nL sc2) (txtV L).length (txtV L))
          have CC := hid (sameResult_true rc rk T1 T2 (by have := hL8.out; omega))
          clear T1 T2
          have o0 : wz.cell? ⟨wx.heap.size, 0, none⟩ = some (.int .i64 rc) := by rw [cell_at hb]; rfl
          have p0 : wz.cell? ⟨wy.heap.size, 0, none⟩ = some (.int .i64 rc) := by rw [cell_at hb']; rfl
          have o1 : wz.cell? ⟨wx.heap.size, 1, none⟩ = some (.int .i64 rk) := by rw [cell_at hb]; rfl
          have p1 : wz.cell? ⟨wy.heap.size, 1, none⟩ = some (.int .i64 rk) := by rw [cell_at hb']; rfl
          have o2 : wz.cell? ⟨wx.heap.size, 2, none⟩ = some (.slice so nL sc1) := by rw [cell_at hb]; rfl
          have p2 : wz.cell? ⟨wy.heap.size, 2, none⟩ = some (.slice so2 nL sc2) := by rw [cell_at hb']; rfl
          clear hb hb'
          go_wp2_with fail
          refine CC.out.mono ?_
          rintro e wu ⟨rfl, Bh⟩
          have A := hid (A.out.later Bh)
          have hb := A.out.blk (g := wx.heap.size) (vs := [.int .i64 rc, .int .i64 rk, .slice so nL sc1]) (t := 41) (by simp)
          have y2 : wu.cell? ⟨wx.heap.size, 2, none⟩ = some (.slice so nL sc1) := by rw [cell_at hb]; rfl
          clear CC Bh o0 o1 o2 p0 p1 p2 hwz' hb
          have A := hid (A.out.perm (ds := ownC 9 (.slice so nL sc1) (txtV L) :: (shL S ov wv PA PM ++ (rdC b D rv1 r.res :: xrC b2 v2 l r.res :: CS ++ [blkC wx.heap.size [.int .i64 rc, .int .i64 rk, .slice so nL sc1] 41, ownC 9 (.slice so2 nL sc2) (txtV L), blkC wy.heap.size [.int .i64 rc, .int .i64 rk, .slice so2 nL sc2] 41]))) (by
            have := perm_by 8 [[blkC wy.heap.size [.int .i64 rc, .int .i64 rk, .slice so2 nL sc2] 41], [ownC 9 (.slice so2 nL sc2) (txtV L)], [xrC b2 v2 l r.res], [blkC wx.heap.size [.int .i64 rc, .int .i64 rk, .slice so nL sc1] 41], [ownC 9 (.slice so nL sc1) (txtV L)], [rdC b D rv1 r.res], shL S ov wv PA PM, CS] [4, 6, 5, 2, 7, 3, 1, 0] rfl (by decide)
            simpa [List.getD] using this))
          have KC := hid (keep_any A.out hrel.out.ok (by have := hL8.out; omega) (by have := hrel.out.few; omega))
          clear A
          go_wp2_with fail
          refine KC.out.mono ?_
          rintro e wt ⟨rfl, ov2, wv2, mv, A1⟩
          have A := hid (All.front2 (All.sublist (ds := shL S ov2 wv2 (PA ++ [(.slice so nL sc1, txtV L)]) (PM ++ [(mv, txtV L)]) ++ (rdC b D rv1 r.res :: xrC b2 v2 l r.res :: CS)) (by
            refine List.Sublist.append (List.Sublist.refl _) ?_
            exact List.sublist_append_left (rdC b D rv1 r.res :: xrC b2 v2 l r.res :: CS) _) A1))
          clear A1 KC y2
          have ML := hid (Rl.mk (i := i + 1) A.out (hrel.out.ok.snoc _ _ _ (by have := hL8.out; omega)) (by have := hrel.out.few; simp; omega) (Nat.le_trans (res_size _) hrel.out.size))
          obtain ⟨er, her⟩ : ∃ er, Hid (er = (r.res).err) := ⟨_, hid rfl⟩
          obtain ⟨pl, hpl⟩ : ∃ pl, Hid (pl = (r.res).place) := ⟨_, hid rfl⟩
          have hb1 : (er != er) = false := by simp
          have hb2 : ((pl : Int) != (pl : Int)) = false := by simp
          clear A
          go_wp2_with fail
          refine (errRd ML.out.all).mono ?_
          rw [← her.out, ← hpl.out]
          rintro e wa ⟨rfl, A1⟩
          have ML := hid (Rl.mk A1 ML.out.ok ML.out.few ML.out.size)
          clear A1
          go_wp2_with fail
          refine (xerrRd ML.out.all.swap).mono ?_
          rw [← her.out, ← hpl.out]
          rintro e wb ⟨rfl, A1⟩
          have ML := hid (Rl.mk A1.swap ML.out.ok ML.out.few ML.out.size)
          clear A1
          have HC := hid (ML.out.hold (by omega))
          go_wp2_with fail
          refine HC.out.mono ?_
          rintro e wc ⟨rfl, q, rfl⟩
          have ML := hid (Rl.mk (ML.out.all.drewN q) ML.out.ok ML.out.few ML.out.size)
          clear HC hb1 hb2 her hpl
          go_wp2
          go_roundw
          case rel => exact ⟨i + 1, _, _, _, _, _, _, by omega, by go_num, ML⟩
          case measure => simp [intOf]; omega
    · have A := hid hrel.out.all
      obtain ⟨cl, hcl⟩ : ∃ cl, Hid (cl = r.close) := ⟨_, hid rfl⟩
      have hbc : (cl == cl) = true := by simp
      have HO := hid hrel.out.ok
      have HF := hid hrel.out.few
      have HB : Hid (l.length ≤ 140737488355328) := hid (by have := hn.out; omega)
      clear hrel
      go_wp2_with fail
      refine (closeRdA A.out).mono ?_
      rw [← hcl.out]
      rintro e wx ⟨rfl, rv1, A1⟩
      have A := hid A1.swap
      clear A1
      go_wp2_with fail
      refine (xcloseRd A.out HB.out).mono ?_
      rw [← hcl.out]
      rintro e wy ⟨rfl, A1⟩
      have A := hid A1.swap
      clear A1
      have hown : wy.ownsRow 0 5 1 (.slice (some ⟨g, 0, none⟩) (n + 8) lc) (cellsB (lentB l 8)).length (cellsB (lentB l 8)) := (A.out.mem (c := ownC 5 (.slice (some ⟨g, 0, none⟩) (n + 8) lc) (cellsB (lentB l 8))) (by rw [hCS.out]; simp)).2.1
      rw [cellsB_length] at hown
      have hBw := (hin.out _ _ A.out (by rw [hCS.out]; simp)).2
      have SC := hid (still_any (Reads.of_owns hown) (HS.out.below hBw) (by have := hn.out; omega))
      clear hown hBw
      go_wp2_with fail
      refine SC.out.mono ?_
      rintro e wz ⟨rfl, q, rfl⟩
      have SP := hid (spoil_sh (A.out.drewN q).back2 HO.out (by have := HF.out; omega))
      clear SC A
      go_wp2_with fail
      refine SP.out.mono ?_
      rintro e wu ⟨rfl, A1⟩
      have hBw := hid (hin.out _ _ A1 (by rw [hCS.out]; simp)).2
      clear A1 SP
      go_wp2
      go_ret
      exact ⟨rfl, hBw.out⟩
end Go.Proofs.YtkcepkehgkkkbaaGreatDoor

import Derived.Test.YtpfpamkbahgkpaaBg7
import Derived.Laws.BitsAllLaws
namespace Go.Proofs.Ytpfpamkbahgkpaa
open Go.RowKit
set_option linter.unusedVariables false

theorem flatP_set1 {ps : List Pk} {i j : Nat} {p p' : Pk} {u : Value} (hp : ps[i]? = some p) (hj : j < 6) (hc : p'.cells = p.cells.set j u) : (flatP ps).set (i * 6 + j) u = flatP (ps.set i p') := by
  induction ps generalizing i with
  | nil => simp at hp
  | cons q l ih =>
    have hq : q.cells.length = 6 := rfl
    cases i with
    | zero =>
      obtain rfl : q = p := by simpa using hp
      simp only [flatP, List.flatMap_cons, List.set_cons_zero, Nat.zero_mul, Nat.zero_add]
      rw [List.set_append_left _ _ (by omega), hc]
    | succ i =>
      have := ih (i := i) (by simpa using hp)
      simp only [flatP, List.flatMap_cons, List.set_cons_succ] at this ⊢
      rw [List.set_append_right _ _ (by omega), ← this]
      congr 2
      omega

/-- One cell of a row. -/
theorem owns_set {e : TypeId} {size g n c j : Nat} {vs : List Value} {u : Value} {w : World} (h : w.ownsRow 0 e size (.slice (some ⟨g, 0, none⟩) n c) n vs) : (w.setCell ⟨g, j, none⟩ u).ownsRow 0 e size (.slice (some ⟨g, 0, none⟩) n c) n (vs.set j u) := by
  refine ⟨by rw [List.length_set]; exact h.1, ?_⟩
  rcases h.2 with ⟨e1, _⟩ | ⟨g', cap, cur, e1, h0, hg, hn, hm, hcs, ht⟩
  · cases e1
  · simp only [Value.slice.injEq, Option.some.injEq, Addr.mk.injEq, and_true] at e1
    obtain ⟨rfl, _, rfl⟩ := e1
    refine Or.inr ⟨g, c, cur.setIfInBounds j u, rfl, h0, heap_setCell_same hg u, hn, hm, by simpa using hcs, ?_⟩
    rw [Array.toList_setIfInBounds, List.take_set, ht]
theorem All.rowSet {e : TypeId} {size g n c : Nat} {vs : List Value} {cs : List Comp} {w : World} (h : All (rowC e size (.slice (some ⟨g, 0, none⟩) n c) n vs :: cs) w) (j : Nat) (u : Value) : All (rowC e size (.slice (some ⟨g, 0, none⟩) n c) n (vs.set j u) :: cs) (w.setCell ⟨g, j, none⟩ u) := by
  refine h.turn ?_ (rowC_good _ _ _ _ _) (owns_set h.1.2.1) (fun k hk => Or.inl hk) (fun k hk => ?_)
  · exact (Fr.setCell w g j u).mono (fun k hk => by simpa [rowC, Value.ownBlock, eq_comm] using hk)
  · have := h.1.2.2 k hk
    simpa [World.setCell] using this
theorem All.bySet {g n c : Nat} {l : List UInt8} {cs : List Comp} {w : World} (h : All (byC (.slice (some ⟨g, 0, none⟩) n c) l :: cs) w) (hn : n = l.length) (j : Nat) (x : UInt8) : All (byC (.slice (some ⟨g, 0, none⟩) n c) (l.set j x) :: cs) (w.setCell ⟨g, j, none⟩ (.int .u8 (x.toNat : Int))) := by
  have hc : cellsB (l.set j x) = (cellsB l).set j (.int .u8 (x.toNat : Int)) := by simp [cellsB, List.map_set]
  have ho : w.ownsRow 0 5 1 (.slice (some ⟨g, 0, none⟩) n c) n (cellsB l) := by
    have : w.ownsRow 0 5 1 (.slice (some ⟨g, 0, none⟩) n c) (cellsB l).length (cellsB l) := h.1.2.1
    rwa [cellsB_length, ← hn] at this
  have h2 := owns_set (j := j) (u := .int .u8 (x.toNat : Int)) ho
  rw [← hc] at h2
  refine h.turn ?_ (ownC_good _ _ _) (show (w.setCell ⟨g, j, none⟩ (.int .u8 (x.toNat : Int))).ownsRow 0 5 1 (.slice (some ⟨g, 0, none⟩) n c) (cellsB (l.set j x)).length (cellsB (l.set j x)) by rw [cellsB_length, List.length_set, ← hn]; exact h2) (fun k hk => Or.inl hk) (fun k hk => ?_)
  · exact (Fr.setCell w g j _).mono (fun k hk => by simpa [ownC, Value.ownBlock, eq_comm] using hk)
  · have := h.1.2.2 k hk
    simpa [World.setCell] using this

theorem u8_xor_val (c Y : Nat) (hc : c < 256) (hY : Y < 256) : bits .xor .u8 (c : Int) (Y : Int) = ((UInt8.ofNat c ^^^ UInt8.ofNat Y).toNat : Int) := by
  rw [u8_xor_nat c Y hc hY, UInt8.toNat_xor, UInt8.toNat_ofNat', UInt8.toNat_ofNat', Nat.mod_eq_of_lt hc, Nat.mod_eq_of_lt hY]

/-- The turned packet. -/
def Pk.flip (p : Pk) (H x Y : Nat) : Pk := { p with u := (x : Int) + 1, ao := some ⟨H, 0, none⟩, c := p.bs.length, bs := p.bs.set x (p.bs.getD x 0 ^^^ UInt8.ofNat Y) }
theorem Pk.flip_ap (p : Pk) (H x Y : Nat) : (p.flip H x Y).ap = p.ap.flip x Y := by simp [Pk.flip, Pk.ap, AP.flip]

set_option maxHeartbeats 1600000 in
set_option maxRecDepth 1000000 in
theorem Flip_ok {B : Bg} {i x Y : Nat} {p : Pk} {P : List (Value × List UInt8)} {cs : List Comp} {w : World} (h : All (poolC P :: (B.L ++ cs)) w) (hn : B.ps.length ≤ 1024) (hp : B.ps[i]? = some p) (hr : Reads w p.D p.bs) (hl : p.bs.length ≤ 140737488355328) (hx : x < p.bs.length) (hy1 : 1 ≤ Y) (hy2 : Y ≤ 255) (hu : p.u = 0 ∨ p.u = x + 1) :
    Calls Try.prog 25 #[B.V, .int .i64 (i : Int), .int .i64 (x : Int), .int .i64 (Y : Int)] w fun e w' => e = .returned (.int .i64 0) ∧ ∃ H, All (poolC (((p.flip H x Y).D, (p.flip H x Y).bs) :: P) :: ((Bg.mk B.b B.r B.l B.v (B.ps.set i (p.flip H x Y))).L ++ cs)) w' := by
  obtain ⟨g, c, hv, hi, t2, ⟨s1, s2, s3, s4, s5, s6⟩, D⟩ := flip_pre (h.perm (perm12 _ _ _ _)) hn hp
  have D := hid D
  have F := hid (show Calls Try.prog 48 #[.slice p.ao p.bs.length p.c] w _ from copied_any h hr hl)
  obtain ⟨b, r, l, v, ps⟩ := B
  simp only at hv hi t2 hn hp
  have D : Hid (Calls Try.prog 49 #[.pointer (some ⟨b, 0, none⟩), .int .i64 (i : Int)] w _) := D
  subst hv
  have HP := hid hp
  clear h hp hr
  obtain ⟨m, hm⟩ : ∃ m, Hid (m = p.bs.length) := ⟨_, hid rfl⟩
  obtain ⟨n, hnn⟩ : ∃ n, Hid (n = ps.length) := ⟨_, hid rfl⟩
  rw [← hm.out] at s6 hl hx F
  rw [← hnn.out] at t2 hi hn
  have hii : (i : Int) < (n : Int) := by omega
  have hx0 : ¬ (x : Int) < 0 := by omega
  have hx1 : ¬ (m : Int) ≤ (x : Int) := by omega
  have hxm : (x : Int) < (m : Int) := by omega
  have hY1 : ¬ (Y : Int) < 1 := by omega
  have hY2 : ¬ (255 : Int) < (Y : Int) := by omega
  obtain ⟨c0, hc0⟩ : ∃ c0, Hid (c0 = (p.bs.getD x 0).toNat) := ⟨_, hid rfl⟩
  have hc0l : c0 < 256 := by rw [hc0.out]; exact (p.bs.getD x 0).toNat_lt
  have E := u8_xor_val c0 Y hc0l (by omega)
  have hwY : IntKind.u8.wrap (Y : Int) = (Y : Int) := by rw [IntKind.wrap_u8']; omega
  obtain ⟨X, hX⟩ : ∃ X, Hid (X = UInt8.ofNat c0 ^^^ UInt8.ofNat Y) := ⟨_, hid rfl⟩
  rw [← hX.out] at E
  have G : Hid (∀ w1 H, All (byC (.slice (some ⟨H, 0, none⟩) m m) p.bs :: poolC P :: ((Bg.mk b r l (.slice (some ⟨g, 0, none⟩) ps.length c) ps).L ++ cs)) w1 → pkAt w1 g (i * 6) p ∧ (∀ j, w1.frozen? ⟨g, j, none⟩ = false) ∧ w1.cell? ⟨H, x, none⟩ = some (.int .u8 (c0 : Int)) ∧ w1.frozen? ⟨H, x, none⟩ = false ∧ g ≠ H ∧ All (poolC (((p.flip H x Y).D, (p.flip H x Y).bs) :: P) :: ((Bg.mk b r l (.slice (some ⟨g, 0, none⟩) ps.length c) (ps.set i (p.flip H x Y))).L ++ cs)) (((w1.setCell ⟨H, x, none⟩ (.int .u8 (X.toNat : Int))).setCell ⟨g, i * 6 + 5, none⟩ (.slice (some ⟨H, 0, none⟩) m m)).setCell ⟨g, i * 6 + 4, none⟩ (.int .i64 ((x : Int) + 1)))) := hid (fun w1 H A => by
    obtain ⟨g', c', e1, hg', hrg, hfz⟩ := row_at (A.tail.tail.tail.1.2.1 : w1.ownsRow 0 49 6 (.slice (some ⟨g, 0, none⟩) ps.length c) ps.length (flatP ps)) HP.out
    simp only [Value.slice.injEq, Option.some.injEq, Addr.mk.injEq, and_true] at e1
    obtain ⟨rfl, _⟩ := e1
    have hR := A.byReads (v := .slice (some ⟨H, 0, none⟩) m m) (l := p.bs) (by simp)
    obtain ⟨g2, o2, e2, hcell⟩ := hR.at_u8 x (by rw [← hm.out]; exact hx)
    simp only [Option.some.injEq, Addr.mk.injEq, and_true] at e2
    obtain ⟨rfl, rfl⟩ := e2
    rw [Nat.zero_add, ← hc0.out] at hcell
    have ho : w1.ownsRow 0 5 1 (.slice (some ⟨H, 0, none⟩) m m) (cellsB p.bs).length (cellsB p.bs) := A.1.2.1
    have hfH : w1.frozen? ⟨H, x, none⟩ = false := by
      rcases ho.2 with ⟨e1, _⟩ | ⟨g3, cap, cur, e1, h0, hg, hn, hm, hcs, ht⟩
      · cases e1
      · simp only [Value.slice.injEq, Option.some.injEq, Addr.mk.injEq, and_true] at e1
        rw [e1.1]
        exact free_at hg x
    have hne : g ≠ H := fun e => by
      have := A.2.1 (pkC (.slice (some ⟨g, 0, none⟩) ps.length c) ps) (by simp) H (by simp [ownC, Value.ownBlock])
      exact this (by simp [rowC, Value.ownBlock, e])
    refine ⟨pkAt_of hrg, hfz, hcell, hfH, hne, ?_⟩
    have A1 := A.bySet hm.out x X
    have A2 := A1.poolAdd
    have A3 : All (pkC (.slice (some ⟨g, 0, none⟩) ps.length c) ps :: poolC ((.slice (some ⟨H, 0, none⟩) m m, p.bs.set x X) :: P) :: blkC b [.int .i64 r, .int .i64 l, .slice (some ⟨g, 0, none⟩) ps.length c] 72 :: cs) _ := A2.perm (perm12 _ _ _ _ |>.trans (List.Perm.swap _ _ _) |>.trans (List.Perm.cons _ (List.Perm.swap _ _ _)))
    have A4 := (All.rowSet A3 (i * 6 + 5) (.slice (some ⟨H, 0, none⟩) m m)).rowSet (i * 6 + 4) (.int .i64 ((x : Int) + 1))
    have eb : (p.flip H x Y).bs = p.bs.set x X := by
      rw [hX.out, hc0.out, UInt8.ofNat_toNat]
      rfl
    have eD : (p.flip H x Y).D = .slice (some ⟨H, 0, none⟩) m m := by
      simp [Pk.D, Pk.flip, hm.out]
    rw [flatP_set1 (p' := { p with ao := some ⟨H, 0, none⟩, c := m, bs := p.bs.set x X }) HP.out (by omega) (by simp [Pk.cells, hm.out]), flatP_set1 (p := { p with ao := some ⟨H, 0, none⟩, c := m, bs := p.bs.set x X }) (p' := p.flip H x Y) (by rw [List.getElem?_set_self]; exact (List.getElem?_eq_some_iff.1 HP.out).1) (by omega) (by simp [Pk.cells, Pk.flip, hm.out]), List.set_set] at A4
    rw [eb, eD]
    have el : (ps.set i (p.flip H x Y)).length = ps.length := by simp
    have A5 : All (poolC ((.slice (some ⟨H, 0, none⟩) m m, p.bs.set x X) :: P) :: blkC b [.int .i64 r, .int .i64 l, .slice (some ⟨g, 0, none⟩) ps.length c] 72 :: rowC 49 6 (.slice (some ⟨g, 0, none⟩) ps.length c) ps.length (flatP (ps.set i (p.flip H x Y))) :: cs) _ := A4.perm ((List.Perm.swap _ _ _).trans (List.Perm.cons _ (List.Perm.swap _ _ _)))
    simp only [Bg.L, pkC, el, List.cons_append, List.nil_append]
    exact A5)
  show Calls Try.prog 25 #[.pointer (some ⟨b, 0, none⟩), .int .i64 (i : Int), .int .i64 (x : Int), .int .i64 (Y : Int)] w _
  rcases hu with hu | hu
  · have e1 : (p.u != 0) = false := by simpa using hu
    have hu := hid hu
    go_enter Try.func25, Try.ntmps25
    go_wp2_with fail
    refine D.out.mono ?_
    rintro e w0 ⟨rfl, rfl⟩
    go_wp2_with fail
    refine F.out.mono ?_
    rintro e w1 ⟨H, rfl, A1⟩
    obtain ⟨⟨s1, s2, s3, s4, s5, s6⟩, sf, k1, k2, k3, A2⟩ := G.out w1 H A1
    have A2 := hid A2
    rw [← hm.out] at s6
    clear A1 G F D t2
    have k3' : H ≠ g := fun e => k3 e.symm
    go_wp2
    go_ret
    exact ⟨rfl, H, A2.out⟩
  · have e1 : (p.u != ((x : Int) + 1)) = false := by simpa using hu
    have e2 : (p.u != 0) = true := by simp; omega
    have hu := hid hu
    go_enter Try.func25, Try.ntmps25
    go_wp2_with fail
    refine D.out.mono ?_
    rintro e w0 ⟨rfl, rfl⟩
    go_wp2_with fail
    refine F.out.mono ?_
    rintro e w1 ⟨H, rfl, A1⟩
    obtain ⟨⟨s1, s2, s3, s4, s5, s6⟩, sf, k1, k2, k3, A2⟩ := G.out w1 H A1
    have A2 := hid A2
    rw [← hm.out] at s6
    clear A1 G F D t2
    have k3' : H ≠ g := fun e => k3 e.symm
    go_wp2
    go_ret
    exact ⟨rfl, H, A2.out⟩
end Go.Proofs.Ytpfpamkbahgkpaa

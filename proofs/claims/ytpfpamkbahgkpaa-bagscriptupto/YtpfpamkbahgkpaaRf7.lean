import Derived.Test.YtpfpamkbahgkpaaRf6
namespace Go.Proofs.Ytpfpamkbahgkpaa
open Go.RowKit
set_option linter.unusedVariables false

/-- Take, by the document. -/
theorem rTake_any {B : Bg} {j : Int} {P : List (Value × List UInt8)} {cs : List Comp} {w : World} (h : All (poolC P :: (B.M ++ cs)) w) (hi : B.In P) (hn : B.ps.length ≤ 1024) :
    Calls Try.prog 34 #[B.V, .int .i64 j] w fun e w' => ∃ (p : Pk) (B' : Bg), e = .returned (.tuple #[p.V, .int .i64 (B.ab.takeE j)]) ∧ p.ap = B.ab.at j ∧ B'.b = B.b ∧ B'.ab = B.ab.take j ∧ B'.In P ∧ All (byC p.D p.bs :: poolC P :: (B'.M ++ cs)) w' := by
  by_cases hh : hasB j B.ps.length = false
  · have hE : B.ab.takeE j = 152 := by unfold AB.takeE; rw [B.ab_len, if_neg (by rw [hh]; simp)]
    refine (rTake_no (h.perm (perm12 _ _ _ _)) hn hh).mono ?_
    rintro e w' ⟨rfl, hb⟩
    exact ⟨Pk.zero, B, by rw [hE], (Bg.at_none hh).symm, rfl, by unfold AB.take; rw [hE]; rfl, hi, (h.later hb).addNil⟩
  · have hh' : hasB j B.ps.length = true := by simpa using hh
    have hE : B.ab.takeE j = 0 := by unfold AB.takeE; rw [B.ab_len, if_pos hh']
    obtain ⟨p, hp, hm, hat, hlt, hj⟩ := Bg.at_ps hh'
    generalize hjj : j.toNat = i at *
    subst hj
    refine (rTake_yes (h.perm (perm12 _ _ _ _)) hn hp (h.inReads (by simp) hi hm) (hi p hm).2).mono ?_
    rintro e w' ⟨a2, c2, v, rfl, A⟩
    refine ⟨p.to a2 c2, Bg.mk B.b B.r B.l v (B.ps.eraseIdx i), by rw [hE], hat.symm, rfl, ?_, fun q hq => hi q (List.mem_of_mem_eraseIdx hq), A.perm (List.Perm.cons _ (perm12 _ _ _ _).symm)⟩
    unfold AB.take
    rw [if_pos hE]
    simp only [Bg.ab, Int.toNat_natCast]
    rw [List.eraseIdx_eq_take_drop_succ, List.eraseIdx_eq_take_drop_succ, List.map_append, List.map_take, List.map_drop]

/-- What is met at a packet of the document's bag. -/
theorem doc_at {B : Bg} {i : Nat} {p : Pk} {X cs : List Comp} {w : World} (h : All (X ++ (B.M ++ cs)) w) (hp : B.ps[i]? = some p) : ∃ g c, B.v = .slice (some ⟨g, 0, none⟩) B.ps.length c ∧ i < B.ps.length ∧ w.cell? ⟨B.b, 2, none⟩ = some (.slice (some ⟨g, 0, none⟩) B.ps.length c) ∧ pkAt w g (i * 6) p := by
  have hi : i < B.ps.length := (List.getElem?_eq_some_iff.1 hp).1
  obtain ⟨g, c, hv, hg, hrg, _⟩ := row_at (All.docRow h) hp
  have hb := All.docBlk h
  rw [hv] at hb
  exact ⟨g, c, hv, hi, by rw [cell_at hb]; rfl, pkAt_of hrg⟩

set_option maxRecDepth 1000000 in
theorem rFlip_no {B : Bg} {k x y : Int} {cs : List Comp} {w : World} (h : All (B.M ++ cs) w) (hn : B.ps.length ≤ 1024) (hk : hasB k B.ps.length = false) : Calls Try.prog 37 #[B.V, .int .i64 k, .int .i64 x, .int .i64 y] w fun e w' => e = .returned (.int .i64 152) ∧ w' = w := by
  have hk2 := has_no hk
  obtain ⟨ao, c, hv, t0, t1, t2⟩ := doc_pre h
  clear h hv hk
  obtain ⟨b, r, l, v, ps⟩ := B
  simp only at hn hk2 t0 t1 t2
  show Calls Try.prog 37 #[.pointer (some ⟨b, 0, none⟩), .int .i64 k, .int .i64 x, .int .i64 y] w _
  generalize ps.length = m at *
  by_cases h0 : k < 0
  · clear hk2
    go_enter Try.func37, Try.ntmps37
    go_wp2
    go_ret
    exact ⟨rfl, rfl⟩
  · have h1 : (m : Int) ≤ k := by omega
    clear hk2
    go_enter Try.func37, Try.ntmps37
    go_wp2
    go_ret
    exact ⟨rfl, rfl⟩
set_option maxRecDepth 1000000 in
theorem rFlip_place {B : Bg} {i : Nat} {p : Pk} {x y : Int} {cs : List Comp} {w : World} (h : All (B.M ++ cs) w) (hn : B.ps.length ≤ 1024) (hp : B.ps[i]? = some p) (hl : p.bs.length ≤ 140737488355328) (hx : hasB x p.bs.length = false) : Calls Try.prog 37 #[B.V, .int .i64 (i : Int), .int .i64 x, .int .i64 y] w fun e w' => e = .returned (.int .i64 153) ∧ w' = w := by
  obtain ⟨g, c, hv, hi, t2, ⟨s1, s2, s3, s4, s5, s6⟩⟩ := doc_at (X := []) h hp
  have hx2 := has_no hx
  clear h hp hv hx
  obtain ⟨b, r, la, v, ps⟩ := B
  simp only at hn hi t2
  show Calls Try.prog 37 #[.pointer (some ⟨b, 0, none⟩), .int .i64 (i : Int), .int .i64 x, .int .i64 y] w _
  generalize p.bs.length = m at *
  generalize ps.length = n at *
  have hii : (i : Int) < (n : Int) := by omega
  have h0' : ¬ (i : Int) < 0 := by omega
  have h1' : ¬ (n : Int) ≤ (i : Int) := by omega
  by_cases hx0 : x < 0
  · clear hx2
    go_enter Try.func37, Try.ntmps37
    go_wp2
    go_ret
    exact ⟨rfl, rfl⟩
  · have hx1 : (m : Int) ≤ x := by omega
    clear hx2
    go_enter Try.func37, Try.ntmps37
    go_wp2
    go_ret
    exact ⟨rfl, rfl⟩
set_option maxRecDepth 1000000 in
theorem rFlip_same {B : Bg} {i x : Nat} {p : Pk} {y : Int} {cs : List Comp} {w : World} (h : All (B.M ++ cs) w) (hn : B.ps.length ≤ 1024) (hp : B.ps[i]? = some p) (hl : p.bs.length ≤ 140737488355328) (hx : x < p.bs.length) (hy : y < 1 ∨ 255 < y ∨ (p.u ≠ 0 ∧ p.u ≠ x + 1)) : Calls Try.prog 37 #[B.V, .int .i64 (i : Int), .int .i64 (x : Int), .int .i64 y] w fun e w' => e = .returned (.int .i64 154) ∧ w' = w := by
  obtain ⟨g, c, hv, hi, t2, ⟨s1, s2, s3, s4, s5, s6⟩⟩ := doc_at (X := []) h hp
  clear h hp hv
  obtain ⟨b, r, la, v, ps⟩ := B
  simp only at hn hi t2
  show Calls Try.prog 37 #[.pointer (some ⟨b, 0, none⟩), .int .i64 (i : Int), .int .i64 (x : Int), .int .i64 y] w _
  generalize p.bs.length = m at *
  generalize ps.length = n at *
  have hii : (i : Int) < (n : Int) := by omega
  have h0' : ¬ (i : Int) < 0 := by omega
  have h1' : ¬ (n : Int) ≤ (i : Int) := by omega
  have hx0 : ¬ (x : Int) < 0 := by omega
  have hx1 : ¬ (m : Int) ≤ (x : Int) := by omega
  by_cases h1 : y < 1
  · clear hy
    go_enter Try.func37, Try.ntmps37
    go_wp2
    go_ret
    exact ⟨rfl, rfl⟩
  · by_cases h2 : 255 < y
    · clear hy
      go_enter Try.func37, Try.ntmps37
      go_wp2
      go_ret
      exact ⟨rfl, rfl⟩
    · obtain ⟨h3, h4⟩ : p.u ≠ 0 ∧ p.u ≠ x + 1 := by omega
      clear hy
      generalize p.u = u at *
      have e1 : (u != 0) = true := by simpa using h3
      have e2 : (u != ((x : Int) + 1)) = true := by simpa using h4
      go_enter Try.func37, Try.ntmps37
      go_wp2
      go_ret
      exact ⟨rfl, rfl⟩

/-- The turned packet, its bytes where they lie. -/
def Pk.turn (p : Pk) (x Y : Nat) : Pk := { p with u := (x : Int) + 1, bs := p.bs.set x (p.bs.getD x 0 ^^^ UInt8.ofNat Y) }
theorem Pk.turn_ap (p : Pk) (x Y : Nat) : (p.turn x Y).ap = p.ap.flip x Y := by simp [Pk.turn, Pk.ap, AP.flip]

set_option maxHeartbeats 3200000 in
set_option maxRecDepth 1000000 in
theorem rFlip_ok {B : Bg} {i x Y : Nat} {p : Pk} {P : List (Value × List UInt8)} {cs : List Comp} {w : World} (h : All (poolC P :: (B.M ++ cs)) w) (hn : B.ps.length ≤ 1024) (hp : B.ps[i]? = some p) (hr : Reads w p.D p.bs) (hl : p.bs.length ≤ 140737488355328) (hx : x < p.bs.length) (hy1 : 1 ≤ Y) (hy2 : Y ≤ 255) (hu : p.u = 0 ∨ p.u = x + 1) :
    Calls Try.prog 37 #[B.V, .int .i64 (i : Int), .int .i64 (x : Int), .int .i64 (Y : Int)] w fun e w' => e = .returned (.int .i64 0) ∧ ∃ a2 c2, All (poolC ((((p.to a2 c2).turn x Y).D, ((p.to a2 c2).turn x Y).bs) :: P) :: ((Bg.mk B.b B.r B.l B.v (B.ps.set i ((p.to a2 c2).turn x Y))).M ++ cs)) w' := by
  obtain ⟨g, c, hv, hi, t2, ⟨s1, s2, s3, s4, s5, s6⟩⟩ := doc_at (X := [poolC P]) h hp
  have F := hid (own_any (p := p) h hr hl)
  obtain ⟨b, r, l, v, ps⟩ := B
  simp only at hv hi t2 hn hp
  subst hv
  have HP := hid hp
  clear h hp hr
  obtain ⟨m, hm⟩ : ∃ m, Hid (m = p.bs.length) := ⟨_, hid rfl⟩
  obtain ⟨n, hnn⟩ : ∃ n, Hid (n = ps.length) := ⟨_, hid rfl⟩
  have F : Hid (Calls Try.prog 44 #[.agg #[.int .i64 p.n, .int .i64 p.f, .int .i64 p.t, .int .i64 p.a, .int .i64 p.u, .slice p.ao m p.c]] w (fun e w' => ∃ a2 c2, e = .returned (.agg #[.int .i64 p.n, .int .i64 p.f, .int .i64 p.t, .int .i64 p.a, .int .i64 p.u, .slice a2 m c2]) ∧ All (byC (.slice a2 m c2) p.bs :: poolC P :: blkC b [.int .i64 r, .int .i64 l, .slice (some ⟨g, 0, none⟩) n c] 75 :: pkC (.slice (some ⟨g, 0, none⟩) ps.length c) ps :: cs) w')) := by
    rw [hm.out, hnn.out]; exact F
  rw [← hm.out] at s6 hl hx
  rw [← hnn.out] at t2 hi hn
  have hii : (i : Int) < (n : Int) := by omega
  have h0' : ¬ (i : Int) < 0 := by omega
  have h1' : ¬ (n : Int) ≤ (i : Int) := by omega
  have hx0 : ¬ (x : Int) < 0 := by omega
  have hx1 : ¬ (m : Int) ≤ (x : Int) := by omega
  have hxm : (x : Int) < (m : Int) := by omega
  have hY1 : ¬ (Y : Int) < 1 := by omega
  have hY2 : ¬ (255 : Int) < (Y : Int) := by omega
  obtain ⟨c0, hc0⟩ : ∃ c0, Hid (c0 = (p.bs.getD x 0).toNat) := ⟨_, hid rfl⟩
  have hc0l : c0 < 256 := by rw [hc0.out]; exact (p.bs.getD x 0).toNat_lt
  have E := u8_xor_val c0 Y hc0l (by omega)
  have hwY : IntKind.u8.wrap (Y : Int) = (Y : Int) := by rw [IntKind.wrap_u8']; omega
  obtain ⟨X, hX⟩ : ∃ X, Hid (X = UInt8.ofNat c0 ^^^ UInt8.ofNat Y) := ⟨_, hid rfl⟩
  rw [← hX.out] at E
  show Calls Try.prog 37 #[.pointer (some ⟨b, 0, none⟩), .int .i64 (i : Int), .int .i64 (x : Int), .int .i64 (Y : Int)] w _
  have key : Hid (∀ u, p.u = u → True) := hid (fun _ _ => trivial)
  have HU := hid hu
  have e12 : (p.u != 0) = false ∨ ((p.u != 0) = true ∧ (p.u != ((x : Int) + 1)) = false) := by
    by_cases h0 : p.u = 0
    · exact Or.inl (by simpa using h0)
    · exact Or.inr ⟨by simpa using h0, by rcases hu with hu | hu; exact absurd hu h0; simpa using hu⟩
  clear hu key
  rcases e12 with e1 | ⟨e1, e2⟩
  all_goals
    go_enter Try.func37, Try.ntmps37
    go_wp2_with fail
    refine F.out.mono ?_
    rintro e w2 ⟨a2, c2, rfl, A2⟩
    clear F s1 s2 s3 s4 s5 s6 t2
    have RD := A2.byReads (v := .slice a2 m c2) (l := p.bs) (by simp)
    obtain ⟨g2, o2, ea2, -⟩ := RD.at_u8 x (by rw [← hm.out]; exact hx)
    have ho0 : w2.ownsRow 0 5 1 (.slice a2 m c2) (cellsB p.bs).length (cellsB p.bs) := A2.1.2.1
    have eo2 : o2 = 0 := by
      rcases ho0.2 with ⟨z1, _⟩ | ⟨g3, cap, cur, z1, z0, hg, hn, hm, hcs, ht⟩
      · rw [ea2] at z1; cases z1
      · rw [ea2] at z1
        simp only [Value.slice.injEq, Option.some.injEq, Addr.mk.injEq, and_true] at z1
        exact z1.1.2
    subst eo2 ea2
    clear RD ho0
    have A3 : All (blkC w2.heap.size [.int .i64 p.n, .int .i64 p.f, .int .i64 p.t, .int .i64 p.a, .int .i64 p.u, .slice (some ⟨g2, 0, none⟩) m c2] 49 :: byC (.slice (some ⟨g2, 0, none⟩) m c2) p.bs :: poolC P :: blkC b [.int .i64 r, .int .i64 l, .slice (some ⟨g, 0, none⟩) n c] 75 :: pkC (.slice (some ⟨g, 0, none⟩) ps.length c) ps :: cs) (w2.alloc (.cells #[.int .i64 p.n, .int .i64 p.f, .int .i64 p.t, .int .i64 p.a, .int .i64 p.u, .slice (some ⟨g2, 0, none⟩) m c2] 49)) := A2.addBlk [.int .i64 p.n, .int .i64 p.f, .int .i64 p.t, .int .i64 p.a, .int .i64 p.u, .slice (some ⟨g2, 0, none⟩) m c2] 49
    clear A2
    go_upto_region 9 with fail
    generalize w2.alloc (.cells #[.int .i64 p.n, .int .i64 p.f, .int .i64 p.t, .int .i64 p.a, .int .i64 p.u, .slice (some ⟨g2, 0, none⟩) m c2] 49) = w3 at *
    generalize w2.heap.size = K at *
    have k5 : w3.cell? ⟨K, 5, none⟩ = some (.slice (some ⟨g2, 0, none⟩) m c2) := by rw [cell_at A3.1.2.1]; rfl
    obtain ⟨g3, o3, ea3, d1⟩ := (A3.byReads (v := .slice (some ⟨g2, 0, none⟩) m c2) (l := p.bs) (by simp)).at_u8 x (by rw [← hm.out]; exact hx)
    simp only [Option.some.injEq, Addr.mk.injEq, and_true] at ea3
    obtain ⟨rfl, rfl⟩ := ea3
    rw [Nat.zero_add, ← hc0.out] at d1
    have d2 : w3.frozen? ⟨g2, x, none⟩ = false := by
      have ho : w3.ownsRow 0 5 1 (.slice (some ⟨g2, 0, none⟩) m c2) (cellsB p.bs).length (cellsB p.bs) := A3.tail.1.2.1
      rcases ho.2 with ⟨z1, _⟩ | ⟨g3, cap, cur, z1, z0, hg, hn, hm, hcs, ht⟩
      · cases z1
      · simp only [Value.slice.injEq, Option.some.injEq, Addr.mk.injEq, and_true] at z1
        rw [z1.1]
        exact free_at hg x
    have A4 : Hid (All (blkC K [.int .i64 p.n, .int .i64 p.f, .int .i64 p.t, .int .i64 p.a, .int .i64 p.u, .slice (some ⟨g2, 0, none⟩) m c2] 49 :: byC (.slice (some ⟨g2, 0, none⟩) m c2) (p.bs.set x X) :: poolC P :: blkC b [.int .i64 r, .int .i64 l, .slice (some ⟨g, 0, none⟩) n c] 75 :: pkC (.slice (some ⟨g, 0, none⟩) ps.length c) ps :: cs) (w3.setCell ⟨g2, x, none⟩ (.int .u8 (X.toNat : Int))).drew) := hid (All.drew (All.swap (All.bySet A3.swap hm.out x X)))
    clear A3
    go_region
    clear k5 d1 d2
    generalize (w3.setCell ⟨g2, x, none⟩ (.int .u8 (X.toNat : Int))).drew = w4 at *
    have k4 : w4.cell? ⟨K, 4, none⟩ = some (.int .i64 p.u) := by rw [cell_at A4.out.1.2.1]; rfl
    have kf : ∀ j, w4.frozen? ⟨K, j, none⟩ = false := fun j => free_at A4.out.1.2.1 j
    have A5 : Hid (All (blkC K [.int .i64 p.n, .int .i64 p.f, .int .i64 p.t, .int .i64 p.a, .int .i64 ((x : Int) + 1), .slice (some ⟨g2, 0, none⟩) m c2] 49 :: byC (.slice (some ⟨g2, 0, none⟩) m c2) (p.bs.set x X) :: poolC P :: blkC b [.int .i64 r, .int .i64 l, .slice (some ⟨g, 0, none⟩) n c] 75 :: pkC (.slice (some ⟨g, 0, none⟩) ps.length c) ps :: cs) (w4.setCell ⟨K, 4, none⟩ (.int .i64 ((x : Int) + 1)))) := hid (A4.out.setBlk 4 (.int .i64 ((x : Int) + 1)))
    clear A4
    go_upto_region 11 with fail
    clear k4 kf
    generalize w4.setCell ⟨K, 4, none⟩ (.int .i64 ((x : Int) + 1)) = w5 at *
    have k0 : w5.cell? ⟨K, 0, none⟩ = some (.int .i64 p.n) := by rw [cell_at A5.out.1.2.1]; rfl
    have k1 : w5.cell? ⟨K, 1, none⟩ = some (.int .i64 p.f) := by rw [cell_at A5.out.1.2.1]; rfl
    have k2 : w5.cell? ⟨K, 2, none⟩ = some (.int .i64 p.t) := by rw [cell_at A5.out.1.2.1]; rfl
    have k3 : w5.cell? ⟨K, 3, none⟩ = some (.int .i64 p.a) := by rw [cell_at A5.out.1.2.1]; rfl
    have k4 : w5.cell? ⟨K, 4, none⟩ = some (.int .i64 ((x : Int) + 1)) := by rw [cell_at A5.out.1.2.1]; rfl
    have k5 : w5.cell? ⟨K, 5, none⟩ = some (.slice (some ⟨g2, 0, none⟩) m c2) := by rw [cell_at A5.out.1.2.1]; rfl
    have t2 : w5.cell? ⟨b, 2, none⟩ = some (.slice (some ⟨g, 0, none⟩) n c) := by rw [cell_at (A5.out.mem (c := blkC b [.int .i64 r, .int .i64 l, .slice (some ⟨g, 0, none⟩) n c] 75) (by simp)).2.1]; rfl
    obtain ⟨g4, c4, ev4, hg4, hrg4, hfz4⟩ := row_at (show w5.ownsRow 0 49 6 (.slice (some ⟨g, 0, none⟩) ps.length c) ps.length (flatP ps) from (A5.out.mem (c := pkC (.slice (some ⟨g, 0, none⟩) ps.length c) ps) (by simp)).2.1) HP.out
    simp only [Value.slice.injEq, Option.some.injEq, Addr.mk.injEq, and_true] at ev4
    obtain ⟨rfl, -⟩ := ev4
    obtain ⟨s1, s2, s3, s4, s5, s6⟩ := pkAt_of hrg4
    have n1 : g ≠ K := fun e => A5.out.2.1 (pkC (.slice (some ⟨g, 0, none⟩) ps.length c) ps) (by simp) K (by simp [blkC]) (by simp [rowC, Value.ownBlock, e])
    have n1' : K ≠ g := n1.symm
    obtain ⟨q, hq⟩ : ∃ q, Hid (q = (p.to (some ⟨g2, 0, none⟩) c2).turn x Y) := ⟨_, hid rfl⟩
    have qb : Hid (q.bs = p.bs.set x X) := hid (by
      rw [hq.out, hX.out, hc0.out, UInt8.ofNat_toNat]
      rfl)
    have qc : Hid (q.cells = [.int .i64 p.n, .int .i64 p.f, .int .i64 p.t, .int .i64 p.a, .int .i64 ((x : Int) + 1), .slice (some ⟨g2, 0, none⟩) m c2]) := hid (by
      have e5 : q.bs.length = m := by rw [qb.out, List.length_set, hm.out]
      unfold Pk.cells
      rw [e5, hq.out]
      rfl)
    have A6 : Hid (All (poolC ((q.D, q.bs) :: P) :: blkC b [.int .i64 r, .int .i64 l, .slice (some ⟨g, 0, none⟩) n c] 75 :: pkC (.slice (some ⟨g, 0, none⟩) ps.length c) (ps.set i q) :: cs) (w5.setCells g (i * 6) [.int .i64 p.n, .int .i64 p.f, .int .i64 p.t, .int .i64 p.a, .int .i64 ((x : Int) + 1), .slice (some ⟨g2, 0, none⟩) m c2])) := hid (by
      have A7 : All (pkC (.slice (some ⟨g, 0, none⟩) ps.length c) ps :: byC (.slice (some ⟨g2, 0, none⟩) m c2) (p.bs.set x X) :: poolC P :: blkC b [.int .i64 r, .int .i64 l, .slice (some ⟨g, 0, none⟩) n c] 75 :: cs) w5 := (A5.out.tail).perm (by
        have := perm_by 5 [[byC (.slice (some ⟨g2, 0, none⟩) m c2) (p.bs.set x X)], [poolC P], [blkC b [.int .i64 r, .int .i64 l, .slice (some ⟨g, 0, none⟩) n c] 75], [pkC (.slice (some ⟨g, 0, none⟩) ps.length c) ps], cs] [3, 0, 1, 2, 4] rfl (by decide)
        simpa [List.getD] using this)
      have A8 := All.rowSets q.cells _ _ (i * 6) A7
      rw [flatP_set _ _ _ (List.getElem?_eq_some_iff.1 HP.out).1, qc.out] at A8
      have A9 := (A8.perm (perm12 _ _ _ _)).poolAdd
      have e5 : q.D = .slice (some ⟨g2, 0, none⟩) m c2 := by
        unfold Pk.D
        rw [qb.out, List.length_set, ← hm.out, hq.out]
        rfl
      rw [e5, qb.out]
      have A10 := A9.perm (List.Perm.cons _ (List.Perm.swap _ _ _))
      simp only [pkC, List.length_set]
      exact A10)
    have A6 : Hid (All (poolC ((q.D, q.bs) :: P) :: blkC b [.int .i64 r, .int .i64 l, .slice (some ⟨g, 0, none⟩) n c] 75 :: pkC (.slice (some ⟨g, 0, none⟩) ps.length c) (ps.set i q) :: cs) ((((((w5.setCell ⟨g, i * 6, none⟩ (.int .i64 p.n)).setCell ⟨g, i * 6 + 1, none⟩ (.int .i64 p.f)).setCell ⟨g, i * 6 + 2, none⟩ (.int .i64 p.t)).setCell ⟨g, i * 6 + 3, none⟩ (.int .i64 p.a)).setCell ⟨g, i * 6 + 4, none⟩ (.int .i64 ((x : Int) + 1))).setCell ⟨g, i * 6 + 5, none⟩ (.slice (some ⟨g2, 0, none⟩) m c2)).drew) := hid A6.out.drew
    clear A5 hrg4 qb qc
    go_region
    all_goals (go_wp2; go_ret; refine ⟨rfl, some ⟨g2, 0, none⟩, c2, ?_⟩; have A7 := A6.out; rw [hq.out, hnn.out] at A7; exact A7)
end Go.Proofs.Ytpfpamkbahgkpaa

import Derived.Test.YtaomhahmpbfjhaaJ18
import Derived.Test.YtaomhahmpbfjhaaJ11
import Derived.Test.YtaomhahmpbfjhaaJ14
import Derived.Test.YtaomhahmpbfjhaaJ10
import Derived.Test.YtaomhahmpbfjhaaJ17
import Derived.Test.YtaomhahmpbfjhaaJ12
namespace Go.Proofs.Ytaomhahmpbfjhaa
open Go.RowKit
set_option linter.unusedVariables false

theorem chk1_ok {n : Nat} {L : Int} {x : Sh} (h : chk1 n L x = 0) : (0 ≤ x.num ∧ x.num < n) ∧ L < x.num ∧ (1 ≤ x.at_ ∧ x.at_ ≤ 1099511627776) ∧ x.len ≤ 2304 := by
  unfold chk1 at h
  split at h
  · cases h
  · rename_i h1
    split at h
    · cases h
    · split at h
      · cases h
      · rename_i h3
        split at h
        · cases h
        · exact ⟨Classical.not_not.1 h1, by omega, Classical.not_not.1 h3, by omega⟩
theorem chk_all {n : Nat} : ∀ {xs : List Sh} {L : Int}, chkE n L xs = 0 → ∀ (i : Nat) (x : Sh), xs[i]? = some x → ((0 ≤ x.num ∧ x.num < n) ∧ (1 ≤ x.at_ ∧ x.at_ ≤ 1099511627776) ∧ x.len ≤ 2304) ∧ ((i = 0 ∧ L < x.num) ∨ ∃ i' y, i = i' + 1 ∧ xs[i']? = some y ∧ y.num < x.num)
  | [], L, _, i, x, hx => by simp at hx
  | y :: r, L, h, i, x, hx => by
    rw [chkE] at h
    by_cases h1 : chk1 n L y = 0
    · rw [if_pos h1] at h
      cases i with
      | zero =>
        simp only [List.getElem?_cons_zero, Option.some.injEq] at hx
        subst hx
        obtain ⟨a, b, c, d⟩ := chk1_ok h1
        exact ⟨⟨a, c, d⟩, .inl ⟨rfl, b⟩⟩
      | succ i =>
        obtain ⟨a, b⟩ := chk_all h i x (by simpa using hx)
        refine ⟨a, .inr ?_⟩
        rcases b with ⟨rfl, b⟩ | ⟨i', z, rfl, hz, b⟩
        · exact ⟨0, y, rfl, rfl, b⟩
        · exact ⟨i' + 1, z, rfl, by simpa using hz, b⟩
    · rw [if_neg h1] at h
      exact absurd h h1

def layI (S : Sheets) (xs : List Sh) : Sheets := xs.foldl (fun S x => setS S x.num.toNat (x.at_.toNat, x.bs)) S

set_option maxRecDepth 1000000 in
set_option maxHeartbeats 3200000 in
/-- The document's Apply, where the list is taken. -/
theorem rApply_ok {w w0 : World} {R n : Nat} {v : Value} {ao : Option Addr} {c : Nat} {rs : List Xs} {xs : List Sh} {cs : List Comp} {S : Sheets} (hA : All (refL R v rs ++ cs) w) (hS : RS n rs S) (hn64 : n ≤ 64) (hin : inC w0 ∈ cs) (hR : ShR w0 ao xs) (hD : ∀ x ∈ xs, Reads w0 (.slice x.ao x.len x.cap) x.bs) (hl : xs.length ≤ 1099511627776) (hE : chkE n (-1) xs = 0) :
    Calls Try.prog 51 #[.pointer (some ⟨R, 0, none⟩), .slice ao xs.length c] w fun e w' => e = .returned (.int .i64 0) ∧ RHas R n cs (layI S xs) w' := by
  obtain ⟨ro, rc, rfl, hAt⟩ := RAt.of hA
  have HA := hid hA
  have HAt := hid hAt
  have HS := hid hS
  have H0 := hid (hA.into (w0 := w0) (by simp [hin]))
  have HR := hid hR
  have HR1 := hid (hR.later H0.out)
  have HD := hid hD
  have HI := hid hin
  have HC := hid (fun i x hx => chk_all hE i x hx)
  have hrl : rs.length ≤ 64 := by rw [hS.len]; omega
  clear hR hA hAt hS hE hD hin
  go_enter Try.func51, Try.ntmps51
  go_wp2_with fail
  go_loopw [11] (fun p11 wr => ∃ (i : Nat), i ≤ xs.length ∧ p11 = .int .i64 (i : Int) ∧ Hid (Below w.heap.size w wr)) (fun p11 _ => xs.length - (intOf p11).toNat)
  case atStart => exact ⟨0, by omega, rfl, hid (Below.refl _ _)⟩
  case round =>
    obtain ⟨i, hi, rfl, hbw⟩ := hrel
    by_cases hlt : i < xs.length
    · have l1 : decide ((i : Int) < (xs.length : Int)) = true := decide_eq_true (by omega)
      have l2 : (i : Int) < (xs.length : Int) := by omega
      obtain ⟨x, hx⟩ : ∃ x, xs[i]? = some x := ⟨_, List.getElem?_eq_getElem hlt⟩
      obtain ⟨⟨b1, b3, b4⟩, hP⟩ := HC.out i x hx
      rw [← HS.out.len] at b1
      obtain ⟨gr, off, rfl, hgr, c0, c1, c2⟩ := (HR1.out.later hbw.out).at hx
      have NB : Hid (Below w.heap.size w (wr.alloc (.cells #[.int .i64 x.num, .int .i64 x.at_, .slice x.ao x.len x.cap] 51))) := hid (belowT hbw.out (ba wr _))
      have r0 := (HAt.out.later NB.out).c0
      have hRl := World.block_lt_of_cell? _ _ r0
      obtain ⟨K, hK⟩ : ∃ K, Hid (K = wr.heap.size) := ⟨_, hid rfl⟩
      have z0 : (wr.alloc (.cells #[.int .i64 x.num, .int .i64 x.at_, .slice x.ao x.len x.cap] 51)).cell? ⟨K, 0, none⟩ = some (.int .i64 x.num) := by rw [hK.out, cell_at (heap_alloc_new wr _)]; rfl
      have z1 : (wr.alloc (.cells #[.int .i64 x.num, .int .i64 x.at_, .slice x.ao x.len x.cap] 51)).cell? ⟨K, 1, none⟩ = some (.int .i64 x.at_) := by rw [hK.out, cell_at (heap_alloc_new wr _)]; rfl
      have z2 : (wr.alloc (.cells #[.int .i64 x.num, .int .i64 x.at_, .slice x.ao x.len x.cap] 51)).cell? ⟨K, 2, none⟩ = some (.slice x.ao x.len x.cap) := by rw [hK.out, cell_at (heap_alloc_new wr _)]; rfl
      have HP2 : Hid (i = 0 ∨ (∃ L : Int, 1 ≤ i ∧ L < x.num ∧ (wr.alloc (.cells #[.int .i64 x.num, .int .i64 x.at_, .slice x.ao x.len x.cap] 51)).cell? ⟨gr, off + (i - 1) * 3, none⟩ = some (.int .i64 L))) := hid (by
        rcases hP with h | ⟨i', y, e1, e2, e3⟩
        · exact .inl h.1
        · obtain ⟨gr2, off2, e4, _, d0, _, _⟩ := (HR1.out.later NB.out).at e2
          simp only [Option.some.injEq, Addr.mk.injEq, and_true] at e4
          obtain ⟨rfl, rfl⟩ := e4
          exact .inr ⟨y.num, by omega, e3, by rw [e1]; exact d0⟩)
      clear hx hP
      go_upto_region 4 with fail
      rw [← hK.out]
      clear hK c0 c1 c2
      generalize (wr.alloc (.cells #[.int .i64 x.num, .int .i64 x.at_, .slice x.ao x.len x.cap] 51)) = w4 at *
      have m0 : ¬ x.num < 0 := by omega
      have m1 : decide (x.num < 0) = false := decide_eq_false m0
      have m2 : ¬ (rs.length : Int) ≤ x.num := by omega
      have m3 : decide ((rs.length : Int) ≤ x.num) = false := decide_eq_false m2
      have o1 : ¬ x.at_ < 1 := by omega
      have o2 : decide (x.at_ < 1) = false := decide_eq_false o1
      have o3 : ¬ (1099511627776 : Int) < x.at_ := by omega
      have o4 : decide ((1099511627776 : Int) < x.at_) = false := decide_eq_false o3
      have o5 : ¬ (2304 : Int) < (x.len : Int) := by omega
      have o6 : decide ((2304 : Int) < (x.len : Int)) = false := decide_eq_false o5
      go_quiet (fail)
      go_upto_region 6 with fail
      rcases HP2.out with hi0 | ⟨L, hi1, hLx, p0⟩
      · have q1 : ¬ (0 : Int) < (i : Int) := by omega
        have q2 : decide ((0 : Int) < (i : Int)) = false := decide_eq_false q1
        have q6 : ¬ 0 < i := by omega
        have q7 : decide (0 < i) = false := decide_eq_false q6
        clear hi0
        go_quiet (fail)
        go_wp2_with fail
        go_roundw
        case rel => exact ⟨i + 1, by omega, by go_num, hid (belowT NB.out (bdN w4 _))⟩
        case measure => simp [intOf]; omega
      · have q1 : (0 : Int) < (i : Int) := by omega
        have q2 : decide ((0 : Int) < (i : Int)) = true := decide_eq_true q1
        have q6 : 0 < i := by omega
        have q7 : decide (0 < i) = true := decide_eq_true q6
        obtain ⟨j, hj⟩ : ∃ j, i = j + 1 := ⟨i - 1, by omega⟩
        rw [hj, Nat.add_sub_cancel] at p0
        have q3 : (i : Int) - 1 = (j : Int) := by omega
        have q4 : (j : Int) < (xs.length : Int) := by omega
        have b2 : ¬ x.num ≤ L := by omega
        have q5 : decide (x.num ≤ L) = false := decide_eq_false b2
        go_quiet (fail)
        go_wp2_with fail
        go_roundw
        case rel => exact ⟨i + 1, by omega, by go_num, hid (belowT NB.out (bdN w4 _))⟩
        case measure => simp [intOf]; omega
    · have l1 : decide ((i : Int) < (xs.length : Int)) = false := decide_eq_false (by omega)
      have l2 : ¬ (i : Int) < (xs.length : Int) := by omega
      have G0 : Hid (RHas R n cs (layI S (xs.take 0)) wr) := hid ⟨_, rs, HA.out.later hbw.out, HS.out⟩
      clear HA HAt HS HR1 H0
      go_wp2_with fail
      generalize hj3 : Value.int IntKind.i64 (i : Int) = j3
      clear hj3 l1 l2 hlt hi
      go_loopw [57] (fun p57 wr => ∃ (j : Nat), j ≤ xs.length ∧ p57 = .int .i64 (j : Int) ∧ Hid (RHas R n cs (layI S (xs.take j)) wr)) (fun p57 _ => xs.length - (intOf p57).toNat)
      case atStart => exact ⟨0, by omega, rfl, G0⟩
      case round =>
        clear G0
        obtain ⟨j, hj, rfl, hG⟩ := hrel
        by_cases hjl : j < xs.length
        · have l1 : decide ((j : Int) < (xs.length : Int)) = true := decide_eq_true (by omega)
          have l2 : (j : Int) < (xs.length : Int) := by omega
          obtain ⟨x, hx⟩ : ∃ x, xs[j]? = some x := ⟨_, List.getElem?_eq_getElem hjl⟩
          have hxm := List.mem_of_getElem? hx
          have htk : xs.take (j + 1) = xs.take j ++ [x] := by rw [List.take_add_one, hx]; rfl
          obtain ⟨⟨b1, b3, b4⟩, _⟩ := HC.out j x hx
          obtain ⟨v2, rs2, A2, hS2⟩ := hG.out
          have hB0 := A2.into (w0 := w0) (by simp [HI.out])
          have hdat := HD.out x hxm
          obtain ⟨gr, off, rfl, hgr, c0, c1, c2⟩ := (HR.out.later hB0).at hx
          obtain ⟨num, at_, dao, dlen, dcap, bs⟩ := x
          simp only at b1 b3 b4 c0 c1 c2 hdat
          obtain ⟨k, rfl⟩ : ∃ k : Nat, num = (k : Int) := ⟨num.toNat, by omega⟩
          obtain ⟨a, rfl⟩ : ∃ a : Nat, at_ = (a : Int) := ⟨at_.toNat, by omega⟩
          have hk : k < n := by omega
          obtain ⟨ro2, rc2, rfl, hAt2⟩ := RAt.of A2
          have hkl : k < rs2.length := by rw [hS2.len]; exact hk
          obtain ⟨y, hy⟩ : ∃ y, rs2[k]? = some y := ⟨_, List.getElem?_eq_getElem hkl⟩
          obtain ⟨g2, rfl, hg2, x0, x1, x2⟩ := row_at hAt2.row hy
          have NXT : Hid (layI S (xs.take (j + 1)) = setS (layI S (xs.take j)) k (a, bs)) := hid (by
            rw [htk, layI, List.foldl_append]
            simp [layI])
          obtain ⟨K, hK⟩ : ∃ K, Hid (K = wr.heap.size) := ⟨_, hid rfl⟩
          have A3 : Hid (All (blkC K [.int .i64 (k : Int), .int .i64 (a : Int), .slice dao dlen dcap] 51 :: (refL R (.slice (some ⟨g2, 0, none⟩) rs2.length rc2) rs2 ++ cs)) (wr.alloc (.cells #[.int .i64 (k : Int), .int .i64 (a : Int), .slice dao dlen dcap] 51))) := hid (by
            have h := A2.addBlk [.int .i64 (k : Int), .int .i64 (a : Int), .slice dao dlen dcap] 51
            rw [← hK.out] at h
            exact h)
          have hrd : Hid (Reads (wr.alloc (.cells #[.int .i64 (k : Int), .int .i64 (a : Int), .slice dao dlen dcap] 51)) (.slice dao dlen dcap) bs) := hid ((hdat.below hB0).below (ba wr _))
          have hl2 : rs2.length ≤ 64 := by rw [hS2.len]; exact hn64
          have hkl2 : (k : Int) < (rs2.length : Int) := by omega
          have HS2 := hid hS2
          clear hx hxm htk b1 hdat hAt2 hy hS2 A2 hG hB0 x0 x1 x2
          have hgK : g2 ≠ K := by rw [hK.out]; omega
          have SS : Hid (∀ (X : List Comp) W, All (X ++ (blkC K [.int .i64 (k : Int), .int .i64 (a : Int), .slice dao dlen dcap] 51 :: (refL R (.slice (some ⟨g2, 0, none⟩) rs2.length rc2) rs2 ++ cs))) W → (W.cell? ⟨R, 0, none⟩ = some (.slice (some ⟨g2, 0, none⟩) rs2.length rc2) ∧ W.cell? ⟨K, 0, none⟩ = some (.int .i64 (k : Int)) ∧ W.cell? ⟨K, 1, none⟩ = some (.int .i64 (a : Int)) ∧ W.cell? ⟨K, 2, none⟩ = some (.slice dao dlen dcap)) ∧ ∃ cur : Array Value, W.heap[g2]? = some (.cells cur 51 (0, 0)) ∧ rs2.length * 3 ≤ cur.size) := hid (fun X W hW => by
            have e1 : W.heap[K]? = some (.cells [.int .i64 (k : Int), .int .i64 (a : Int), .slice dao dlen dcap].toArray 51 (0, 0)) := hW.blk (by simp)
            have e2 : W.heap[R]? = some (.cells [.slice (some ⟨g2, 0, none⟩) rs2.length rc2].toArray 72 (0, 0)) := hW.blk (by simp [refL])
            have e3 : W.ownsRow 0 51 3 (.slice (some ⟨g2, 0, none⟩) rs2.length rc2) rs2.length (flatX rs2) := (hW.mem (c := rowC 51 3 (.slice (some ⟨g2, 0, none⟩) rs2.length rc2) rs2.length (flatX rs2)) (by simp [refL])).2.1
            refine ⟨⟨by rw [cell_at e2]; rfl, by rw [cell_at e1]; rfl, by rw [cell_at e1]; rfl, by rw [cell_at e1]; rfl⟩, ?_⟩
            rcases e3.2 with ⟨h, _⟩ | ⟨g', cap, cur, h, _, hc, h1, h2, h3, h4⟩
            · cases h
            · simp only [Value.slice.injEq, Option.some.injEq, Addr.mk.injEq, and_true] at h
              obtain ⟨rfl, _, rfl⟩ := h
              refine ⟨cur, hc, ?_⟩
              rw [h3]
              exact Nat.mul_le_mul_right 3 h1)
          obtain ⟨⟨s0, s1, s2, s3⟩, _⟩ := SS.out [] _ A3.out
          have hRg : R ≠ g2 := fun e => by
            obtain ⟨_, cur, hc, _⟩ := SS.out [] _ A3.out
            have e2 : (wr.alloc (.cells #[.int .i64 (k : Int), .int .i64 (a : Int), .slice dao dlen dcap] 51)).heap[R]? = some (.cells [.slice (some ⟨g2, 0, none⟩) rs2.length rc2].toArray 72 (0, 0)) := A3.out.blk (by simp [refL])
            rw [e, hc] at e2
            simp at e2
          have hRg2 : g2 ≠ R := fun e => hRg e.symm
          have hKg2 : K ≠ g2 := fun e => hgK e.symm
          go_upto_region 16 with fail
          rw [← hK.out]
          clear c0 c1 c2
          clear hK
          generalize (wr.alloc (.cells #[.int .i64 (k : Int), .int .i64 (a : Int), .slice dao dlen dcap] 51)) = w4 at *
          have C38 : Hid (Calls Try.prog 38 #[.slice dao dlen dcap] w4.drew fun e w6 => ∃ o3 c3, e = .returned (.slice o3 bs.length c3) ∧ Hid (w6.cell? ⟨R, 0, none⟩ = some (.slice (some ⟨g2, 0, none⟩) rs2.length rc2) ∧ w6.cell? ⟨K, 0, none⟩ = some (.int .i64 (k : Int)) ∧ w6.cell? ⟨K, 1, none⟩ = some (.int .i64 (a : Int)) ∧ w6.cell? ⟨K, 2, none⟩ = some (.slice dao dlen dcap)) ∧ (∃ u0 u1 u2, w6.cell? ⟨g2, k * 3, none⟩ = some u0 ∧ w6.cell? ⟨g2, k * 3 + 1, none⟩ = some u1 ∧ w6.cell? ⟨g2, k * 3 + 2, none⟩ = some u2) ∧ (w6.frozen? ⟨g2, k * 3, none⟩ = false ∧ w6.frozen? ⟨g2, k * 3 + 1, none⟩ = false ∧ w6.frozen? ⟨g2, k * 3 + 2, none⟩ = false) ∧ Hid (RHas R n cs (layI S (xs.take (j + 1))) (((w6.setCell ⟨g2, k * 3, none⟩ (.int .i64 (k : Int))).setCell ⟨g2, k * 3 + 1, none⟩ (.int .i64 (a : Int))).setCell ⟨g2, k * 3 + 2, none⟩ (.slice o3 bs.length c3)))) := hid (by
            refine (copied_any hrd.out.drew (by have := hrd.out.form; obtain ⟨_, _, e⟩ := this; simp only [Value.slice.injEq] at e; omega)).mono ?_
            rintro e w6 ⟨v6, rfl, ho6, hb6⟩
            obtain ⟨o3, c3, rfl⟩ := owns_form ho6
            have A6 : All (datC ⟨k, a, o3, bs.length, c3, bs⟩ :: (blkC K [.int .i64 (k : Int), .int .i64 (a : Int), .slice dao dlen dcap] 51 :: (refL R (.slice (some ⟨g2, 0, none⟩) rs2.length rc2) rs2 ++ cs))) w6 := by
              refine A3.out.drew.add (Fr.below hb6) (rowC_good _ _ _ _ _) (owns_zero ho6) (fun k' hk' => ?_)
              have hk2 : (Value.slice o3 bs.length c3).ownBlock = some k' := by simpa [datC, rowC, Xs.v] using hk'
              exact World.ownsRow.lt ho6 k' hk2
            obtain ⟨hs6, cur, hc6, hsz⟩ := SS.out [_] _ A6
            refine ⟨o3, c3, rfl, hid hs6, ⟨cur[k * 3], cur[k * 3 + 1], cur[k * 3 + 2], ?_, ?_, ?_⟩, ⟨free_at hc6 _, free_at hc6 _, free_at hc6 _⟩, hid ?_⟩
            · rw [cell_at hc6]; exact Array.getElem?_eq_getElem (by omega)
            · rw [cell_at hc6]; exact Array.getElem?_eq_getElem (by omega)
            · rw [cell_at hc6]; exact Array.getElem?_eq_getElem (by omega)
            · rw [NXT.out]
              exact RHas.store (y := ⟨k, a, o3, bs.length, c3, bs⟩) A6.swap.tail HS2.out rfl hk)
          clear A3 hrd SS
          go_region_held3 (fun W => W.cell? ⟨R, 0, none⟩ = some (.slice (some ⟨g2, 0, none⟩) rs2.length rc2) ∧ W.cell? ⟨K, 0, none⟩ = some (.int .i64 (k : Int)) ∧ W.cell? ⟨K, 1, none⟩ = some (.int .i64 (a : Int)) ∧ W.cell? ⟨K, 2, none⟩ = some (.slice dao dlen dcap)) (first | exact ⟨s0, s1, s2, s3⟩ | exact q1.out | (obtain ⟨t0, t1, t2, t3⟩ := q1.out; go_keep))
            (first
              | (go_at_call 38; refine C38.out.mono ?_; rintro e w6 ⟨o3, c3, rfl, q1, ⟨u0, u1, u2, v0, v1, v2⟩, ⟨f0, f1, f2⟩, HH⟩))
          clear v0 v1 v2 f0 f1 f2 q1 C38 s0 s1 s2 s3
          go_wp2_with fail
          go_roundw
          case rel => exact ⟨j + 1, by omega, by go_num, HH⟩
          case measure => simp [intOf]; omega
        · have l1 : decide ((j : Int) < (xs.length : Int)) = false := decide_eq_false (by omega)
          have l2 : ¬ (j : Int) < (xs.length : Int) := by omega
          have hjj : Hid (j = xs.length) := hid (by omega)
          have G1 : Hid (RHas R n cs (layI S xs) wr) := hid (by
            have h := hG.out
            rw [hjj.out, List.take_of_length_le (Nat.le_refl _)] at h
            exact h)
          clear hG
          go_wp2
          go_ret
          exact ⟨rfl, G1.out⟩
end Go.Proofs.Ytaomhahmpbfjhaa

namespace Go.Proofs.Ytaomhahmpbfjhaa
open Go.RowKit
set_option linter.unusedVariables false

theorem flatS_at {l : List Sh} {i : Nat} {x : Sh} (h : l[i]? = some x) {j : Nat} (hj : j < 3) : (flatS l)[i * 3 + j]? = x.cells[j]? := by
  induction l generalizing i with
  | nil => simp at h
  | cons y l ih =>
    rw [flatS, List.flatMap_cons]
    cases i with
    | zero =>
      simp only [List.getElem?_cons_zero, Option.some.injEq] at h
      subst h
      rw [Nat.zero_mul, Nat.zero_add, List.getElem?_append_left (by simpa [Sh.cells] using hj)]
    | succ i =>
      rw [List.getElem?_append_right (by simp [Sh.cells]; omega)]
      have := ih (i := i) (by simpa using h)
      rw [← this]
      simp only [Sh.cells, List.length_cons, List.length_nil, flatS]
      congr 1
      omega
theorem ShR.of_row {w : World} {ao : Option Addr} {c : Nat} {zs : List Sh} (h : w.ownsRow 0 51 3 (.slice ao zs.length c) zs.length (flatS zs)) : ShR w ao zs := by
  rcases h.2 with ⟨_, e⟩ | ⟨g, cap, cur, e, _, h2, h3, h4, h5, h6⟩
  · exact .inl (List.length_eq_zero_iff.1 e)
  · simp only [Value.slice.injEq] at e
    obtain ⟨rfl, _, rfl⟩ := e
    refine .inr ⟨g, 0, rfl, (Array.getElem?_eq_some_iff.1 h2).1, fun i x hx j u hu => ?_⟩
    have hi := (List.getElem?_eq_some_iff.1 hx).1
    have hj : j < 3 := by
      have := (List.getElem?_eq_some_iff.1 hu).1
      simpa [Sh.cells] using this
    have e1 : (cur.toList.take (zs.length * 3))[i * 3 + j]? = (flatS zs)[i * 3 + j]? := by rw [h6]
    rw [List.getElem?_take, if_pos (by omega), Array.getElem?_toList, flatS_at hx hj, hu] at e1
    rw [cell_at h2, Nat.zero_add]
    exact e1
def Sh.x (z : Sh) : Xs := ⟨z.num.toNat, z.at_.toNat, z.ao, z.len, z.cap, z.bs⟩
theorem flat_x : ∀ {zs : List Sh}, (∀ z ∈ zs, 0 ≤ z.num ∧ 0 ≤ z.at_) → flatX (zs.map Sh.x) = flatS zs
  | [], _ => rfl
  | z :: zs, h => by
    have h0 := h z (by simp)
    have ih := flat_x (zs := zs) (fun y hy => h y (by simp [hy]))
    simp only [flatX, flatS, List.map_cons, List.flatMap_cons] at ih ⊢
    rw [ih]
    congr 1
    simp only [Xs.cells, Sh.cells, Sh.x]
    rw [Int.toNat_of_nonneg h0.1, Int.toNat_of_nonneg h0.2]
theorem apply_x (S : Sheets) (zs : List Sh) : applyS S (zs.map Sh.x) = layI S zs := by
  unfold applyS layI
  rw [List.foldl_map]
  rfl
theorem fit_x {n : Nat} {zs : List Sh} (h : chkE n (-1) zs = 0) : Fit n (zs.map Sh.x) := by
  refine ⟨fun i y hy => ?_, fun i y z hy hz => ?_⟩
  · rw [List.getElem?_map] at hy
    obtain ⟨x, hx, rfl⟩ := Option.map_eq_some_iff.1 hy
    obtain ⟨⟨a, b, c⟩, _⟩ := chk_all h i x hx
    simp only [Sh.x]
    omega
  · rw [List.getElem?_map] at hy hz
    obtain ⟨x, hx, rfl⟩ := Option.map_eq_some_iff.1 hy
    obtain ⟨x2, hx2, rfl⟩ := Option.map_eq_some_iff.1 hz
    obtain ⟨⟨a, _, _⟩, hp⟩ := chk_all h (i + 1) x2 hx2
    obtain ⟨⟨a1, _, _⟩, _⟩ := chk_all h i x hx
    rcases hp with ⟨e, _⟩ | ⟨i', y, e, hy', hlt⟩
    · omega
    · have : i' = i := by omega
      subst this
      rw [hx] at hy'
      cases hy'
      simp only [Sh.x]
      omega

/-- Apply, whatever the list. -/
theorem Apply_any {w : World} {g n lv : Nat} {ps : List Nat} {N : Nodes} {P : Pool} {cs : List Comp} {S : Sheets} {oo : Option Addr} {oc : Nat} {zs : List Sh} (hA : All (poolC P :: blkC g (bookL n lv ps) 70 :: cs) w) (hB : Bk P n lv ps N S) (hrow : rowC 51 3 (.slice oo zs.length oc) zs.length (flatS zs) ∈ cs) (hd : ∀ z ∈ zs, datS z ∈ cs) (hl : zs.length ≤ 1099511627776) :
    Calls Try.prog 19 #[.pointer (some ⟨g, 0, none⟩), .slice oo zs.length oc] w fun e w' => e = .returned (.int .i64 (chkE n (-1) zs)) ∧ Has P g n cs (if chkE n (-1) zs = 0 then layI S zs else S) w' := by
  have hr : w.ownsRow 0 51 3 (.slice oo zs.length oc) zs.length (flatS zs) := (hA.mem (c := rowC 51 3 (.slice oo zs.length oc) zs.length (flatS zs)) (by simp [hrow])).2.1
  by_cases hE : chkE n (-1) zs = 0
  · rw [if_pos hE, hE]
    have hsh := chk_short (L := -1) (by omega) hE (by omega)
    have hn64 : n ≤ 64 := Nat.le_trans hB.nlv hB.lv64
    have hp : ∀ z ∈ zs, 0 ≤ z.num ∧ 0 ≤ z.at_ := fun z hz => by
      obtain ⟨i, hi, e⟩ := List.mem_iff_getElem.1 hz
      obtain ⟨⟨a, b, c⟩, _⟩ := chk_all hE i z (List.getElem?_eq_some_iff.2 ⟨hi, e⟩)
      omega
    have := Apply_ok (c := oc) (ao := oo) (ys := zs.map Sh.x) hA hB (by rw [List.length_map, flat_x hp]; exact hrow) (fun y hy => by
      obtain ⟨z, hz, rfl⟩ := List.mem_map.1 hy
      exact hd z hz) (fit_x hE) (by rw [List.length_map]; omega)
    rw [List.length_map, apply_x] at this
    exact this
  · rw [if_neg hE]
    refine (Apply_bad hA (ShR.of_row hr) hl hE).mono ?_
    rintro e w' ⟨rfl, hb⟩
    exact ⟨rfl, P, lv, ps, N, hA.later hb, hB, fun x hx => hx⟩
end Go.Proofs.Ytaomhahmpbfjhaa

namespace Go.Proofs.Ytaomhahmpbfjhaa
open Go.RowKit Go.Sort Go.Shelf
set_option linter.unusedVariables false

def ShSt (w : World) (ao : Option Addr) (xs : List Sh) : Prop :=
  ∀ (i : Nat) (x : Sh), xs[i]? = some x → ∃ g o, ao = some ⟨g, o, none⟩ ∧ w.cell? ⟨g, o + i * 3, none⟩ = some (.int .i64 x.num) ∧ w.cell? ⟨g, o + i * 3 + 1, none⟩ = some (.int .i64 x.at_) ∧ w.cell? ⟨g, o + i * 3 + 2, none⟩ = some (.slice x.ao x.len x.cap) ∧ Reads w (.slice x.ao x.len x.cap) x.bs


set_option maxRecDepth 100000 in
set_option maxHeartbeats 4000000 in
theorem lsameS_eq {w : World} {ao bo : Option Addr} {k ca cb : Nat} {xs ys : List Sh} (hx : ShSt w ao xs) (hy : ShSt w bo ys) (hk : xs.map Sh.key = ys.map Sh.key) (hlk : k = xs.length) (hlen : k ≤ 1099511627776) (hb : ∀ x ∈ xs, x.bs.length ≤ 140737488355328) :
    Calls Try.prog 16 #[.slice ao k ca, .slice bo k cb] w fun e w' => e = .returned (.bool true) ∧ ∃ q, w' = w.drewN q := by
  have HX := hid hx
  have HY := hid hy
  have HK := hid hk
  have HB := hid hb
  have HL := hid hlen
  have HLK := hid hlk
  clear hx hy hk hb hlen hlk
  have hne : ((k : Int) != (k : Int)) = false := by simp
  refine (callsIn_wide (n := 9)).1 (callsIn_of_wp Try.func16 rfl trivial ?_ rfl)
  simp only [Try.ntmps16, List.size_toArray, List.length_cons, List.length_nil, Nat.reduceAdd, Nat.reduceSub, Array.replicate_succ, Array.replicate_zero, List.push_toArray, List.append_toArray, List.nil_append, List.cons_append]
  gi_wp2
  gi_loopw [5, 13, 14, 15, 16, 17, 18, 19, 20, 21, 22, 23, 24, 25, 26, 27, 28, 29, 30, 31, 32, 33, 34, 35, 36, 37, 38, 39, 40, 41, 42, 43, 44, 45, 46, 47, 48, 49, 50, 51, 52, 53, 54] (fun p5 p13 p14 p15 p16 p17 p18 p19 p20 p21 p22 p23 p24 p25 p26 p27 p28 p29 p30 p31 p32 p33 p34 p35 p36 p37 p38 p39 p40 p41 p42 p43 p44 p45 p46 p47 p48 p49 p50 p51 p52 p53 p54 wr => ∃ i q : Nat, p13 = .int .i64 i ∧ i ≤ k ∧ w.drewN q = wr)
    (fun p5 p13 p14 p15 p16 p17 p18 p19 p20 p21 p22 p23 p24 p25 p26 p27 p28 p29 p30 p31 p32 p33 p34 p35 p36 p37 p38 p39 p40 p41 p42 p43 p44 p45 p46 p47 p48 p49 p50 p51 p52 p53 p54 _ => match p13 with | .int _ i => (k - i).toNat | _ => 0)
  case atStart => exact ⟨0, 0, rfl, by omega, rfl⟩
  case round =>
    obtain ⟨i, q, rfl, hi, rfl⟩ := hrel
    by_cases hc : (i : Int) < (k : Int)
    · have hik : i < k := by omega
      have hix : i < xs.length := by rw [← HLK.out]; exact hik
      obtain ⟨x, hxi⟩ : ∃ x, xs[i]? = some x := ⟨_, List.getElem?_eq_getElem hix⟩
      have hkk : (ys.map Sh.key)[i]? = some x.key := by rw [← HK.out, List.getElem?_map, hxi]; rfl
      obtain ⟨y, hyi, hye⟩ : ∃ y, ys[i]? = some y ∧ y.key = x.key := by
        rw [List.getElem?_map] at hkk
        cases e : ys[i]? with
        | none => rw [e] at hkk; cases hkk
        | some y => rw [e] at hkk; exact ⟨y, rfl, Option.some.inj hkk⟩
      simp only [Sh.key, Prod.mk.injEq] at hye
      obtain ⟨ye1, ye2, ye3⟩ := hye
      obtain ⟨g, o, rfl, c0, c1, c2, r1⟩ := HX.out i x hxi
      obtain ⟨g', o', rfl, e0, e1, e2, r2⟩ := HY.out i y hyi
      rw [ye1] at e0
      rw [ye2] at e1
      rw [ye3] at r2
      have LF := hid (fun m => (callsIn_wide (n := 8)).2 ((same_eq ((r1.drewN q).drewN m) ((r2.drewN q).drewN m) (by have := HB.out x (List.mem_of_getElem? hxi); omega)).mono (fun e w' (h : _ ∧ _) => (⟨h.1, by
        obtain ⟨q', hq'⟩ := h.2
        exact ⟨m + q', by rw [hq', drewN_drewN]⟩⟩ : _ ∧ ∃ m', w' = (w.drewN q).drewN m'))))
      have f0 : (w.drewN q).cell? ⟨g, o + i * 3, none⟩ = some (.int .i64 x.num) := c0
      have f1 : (w.drewN q).cell? ⟨g, o + i * 3 + 1, none⟩ = some (.int .i64 x.at_) := c1
      have f2 : (w.drewN q).cell? ⟨g, o + i * 3 + 2, none⟩ = some (.slice x.ao x.len x.cap) := c2
      have h0 : (w.drewN q).cell? ⟨g', o' + i * 3, none⟩ = some (.int .i64 x.num) := e0
      have h1 : (w.drewN q).cell? ⟨g', o' + i * 3 + 1, none⟩ = some (.int .i64 x.at_) := e1
      have h2 : (w.drewN q).cell? ⟨g', o' + i * 3 + 2, none⟩ = some (.slice y.ao y.len y.cap) := e2
      have wi : IntKind.i64.wrap ((i : Int) + 1) = ((i + 1 : Nat) : Int) := by have := HL.out; rw [IntKind.wrap_i64]; omega
      have fin : Hid (∀ nq, w.drewN (q + nq) = (w.drewN q).drewN nq) := hid (fun nq => (drewN_drewN w q nq).symm)
      generalize hW : w.drewN q = W at *
      have HW := hid hW
      have hi0 : (0 : Int) ≤ (i : Int) := by omega
      clear hW r1 r2 c0 c1 c2 e0 e1 e2 hxi hkk hyi ye1 ye2 ye3 hix
      have wfa : ∀ f, Fence.wide.fn f = True := fun _ => rfl
      gi_wp2
      refine wpIn_region_quiet_lit rfl (by kernel_rfl) (by kernel_rfl) ?_
      repeat (quiet_step_in (first | with_reducible exact LF.out _ ))
      refine wpQuietIn_nil ?_
      rintro w2 ⟨nq, rfl⟩
      clear wfa LF f0 f1 f2 h0 h1 h2 HX HY
      gi_wp2
      first
        | exact ⟨⟨i + 1, q + nq, rfl, by omega, fin.out nq⟩, by simp only; omega⟩
        | (go_roundw
           case rel => exact ⟨i + 1, q + nq, rfl, by omega, fin.out nq⟩
           case measure => simp only; omega)
    · gi_wp2
      go_ret
      exact ⟨rfl, q, rfl⟩

theorem ShSt.of_row {w : World} {ao : Option Addr} {m c : Nat} {xs : List Sh} {cs : List Comp} (hA : All cs w) (hrow : rowC 51 3 (.slice ao xs.length c) xs.length (flatS xs) ∈ cs) (hd : ∀ x ∈ xs, datS x ∈ cs) : ShSt w ao xs := by
  intro i x hx
  obtain ⟨g, o, rfl, _, y0, y1, y2⟩ := (ShR.of_row (show w.ownsRow 0 51 3 (.slice ao xs.length c) xs.length (flatS xs) from (hA.mem hrow).2.1)).at hx
  exact ⟨g, o, rfl, y0, y1, y2, Reads.of_owns (show w.ownsRow 0 5 1 (.slice x.ao x.len x.cap) x.bs.length (cellsB x.bs) from (hA.mem (hd x (List.mem_of_getElem? hx))).2.1)⟩
theorem ShSt.of_in {w w0 : World} {ao : Option Addr} {xs : List Sh} (hb : Below w0.heap.size w0 w) (hR : ShR w0 ao xs) (hD : ∀ x ∈ xs, Reads w0 (.slice x.ao x.len x.cap) x.bs) : ShSt w ao xs := by
  intro i x hx
  obtain ⟨g, o, rfl, _, y0, y1, y2⟩ := (hR.later hb).at hx
  exact ⟨g, o, rfl, y0, y1, y2, (hD x (List.mem_of_getElem? hx)).below hb⟩
end Go.Proofs.Ytaomhahmpbfjhaa

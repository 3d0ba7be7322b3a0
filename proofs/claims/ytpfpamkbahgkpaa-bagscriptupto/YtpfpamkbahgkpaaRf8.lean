import Derived.Test.YtpfpamkbahgkpaaRf7
namespace Go.Proofs.Ytpfpamkbahgkpaa
open Go.RowKit
set_option linter.unusedVariables false

/-- Flip, by the document. -/
theorem rFlip_any {B : Bg} {j x y : Int} {P : List (Value × List UInt8)} {cs : List Comp} {w : World} (h : All (poolC P :: (B.M ++ cs)) w) (hi : B.In P) {k : Nat} (ho : B.ab.Ok k) :
    Calls Try.prog 37 #[B.V, .int .i64 j, .int .i64 x, .int .i64 y] w fun e w' => e = .returned (.int .i64 (B.ab.flipE j x y)) ∧ B.Tm (B.ab.flip j x y) P cs w' := by
  have hn : B.ps.length ≤ 1024 := by rw [← B.ab_len]; exact ho.small
  have stay : ∀ w', w' = w → B.ab.flipE j x y ≠ 0 → B.Tm (B.ab.flip j x y) P cs w' := by
    rintro w' rfl hE
    exact ⟨P, B, rfl, by unfold AB.flip; rw [if_neg hE], hi, fun e h => h, h⟩
  by_cases hh : hasB j B.ps.length = false
  · have hE : B.ab.flipE j x y = 152 := by unfold AB.flipE; rw [B.ab_len, if_pos hh]
    refine (rFlip_no (h.perm (perm12 _ _ _ _)) hn hh).mono ?_
    rintro e w' ⟨rfl, hw⟩
    exact ⟨by rw [hE], stay w' hw (by omega)⟩
  · have hh' : hasB j B.ps.length = true := by simpa using hh
    obtain ⟨p, hp, hm, hat, hlt, hj⟩ := Bg.at_ps hh'
    generalize hjj : j.toNat = i at *
    subst hj
    have hpl := (hi p hm).2
    have hbs : (B.ab.at (i : Int)).bs = p.bs := by rw [hat]; rfl
    have hu : (B.ab.at (i : Int)).u = p.u := by rw [hat]; rfl
    by_cases hx : hasB x p.bs.length = false
    · have hE : B.ab.flipE i x y = 153 := by unfold AB.flipE; rw [B.ab_len, if_neg hh, hbs, if_pos hx]
      refine (rFlip_place (h.perm (perm12 _ _ _ _)) hn hp hpl hx).mono ?_
      rintro e w' ⟨rfl, hw⟩
      exact ⟨by rw [hE], stay w' hw (by omega)⟩
    · have hx2 : hasB x p.bs.length = true := by simpa using hx
      have hx' : 0 ≤ x ∧ x < p.bs.length := of_decide_eq_true hx2
      obtain ⟨X, rfl⟩ : ∃ X : Nat, x = (X : Int) := ⟨x.toNat, by omega⟩
      by_cases hy : y < 1 ∨ 255 < y ∨ (p.u ≠ 0 ∧ p.u ≠ X + 1)
      · have hE : B.ab.flipE i X y = 154 := by unfold AB.flipE; rw [B.ab_len, if_neg hh, hbs, if_neg hx, hu, if_pos hy]
        refine (rFlip_same (h.perm (perm12 _ _ _ _)) hn hp hpl (by omega) hy).mono ?_
        rintro e w' ⟨rfl, hw⟩
        exact ⟨by rw [hE], stay w' hw (by omega)⟩
      · have hE : B.ab.flipE i X y = 0 := by unfold AB.flipE; rw [B.ab_len, if_neg hh, hbs, if_neg hx, hu, if_neg hy]
        obtain ⟨Y, rfl⟩ : ∃ Y : Nat, y = (Y : Int) := ⟨y.toNat, by omega⟩
        refine (rFlip_ok h hn hp (h.inReads (by simp) hi hm) hpl (by omega) (by omega) (by omega) (by omega)).mono ?_
        rintro e w' ⟨rfl, a2, c2, A⟩
        refine ⟨by rw [hE], _, Bg.mk B.b B.r B.l B.v (B.ps.set i ((p.to a2 c2).turn X Y)), rfl, ?_, ?_, fun e h => List.mem_cons_of_mem _ h, A⟩
        · unfold AB.flip
          rw [if_pos hE, hat]
          simp only [Bg.ab, List.map_set, Pk.turn_ap, Pk.ap_to, Int.toNat_natCast]
        · intro q hq
          rcases List.mem_or_eq_of_mem_set hq with hq | rfl
          · exact ⟨List.mem_cons_of_mem _ (hi q hq).1, (hi q hq).2⟩
          · exact ⟨List.mem_cons_self, by simpa [Pk.turn, Pk.to] using hpl⟩

/-- The bytes of packets go into the pool. -/
theorem All.poolAddL {P : List (Value × List UInt8)} {w : World} : ∀ {qs : List Pk} {cs : List Comp}, All (datL qs ++ (poolC P :: cs)) w → All (poolC (qs.map (fun q => (q.D, q.bs)) ++ P) :: cs) w
  | [], cs, h => h
  | q :: t, cs, h => by
    have h2 : All (datL t ++ (poolC P :: (byC q.D q.bs :: cs))) w := h.perm (by
      have := perm_by 4 [[byC q.D q.bs], datL t, [poolC P], cs] [1, 2, 0, 3] rfl (by decide)
      simpa [List.getD] using this)
    exact (All.poolAddL h2).swap.poolAdd

set_option maxHeartbeats 1600000 in
set_option maxRecDepth 1000000 in
/-- Clone, by the document. -/
theorem rClone_any {B : Bg} {P : List (Value × List UInt8)} {cs : List Comp} {w : World} (h : All (poolC P :: (B.M ++ cs)) w) (hi : B.In P) (hn : B.ps.length ≤ 1024) :
    Calls Try.prog 11 #[B.V] w fun e w' => ∃ (b : Nat) (P' : List (Value × List UInt8)) (B' : Bg), e = .returned (.pointer (some ⟨b, 0, none⟩)) ∧ B'.b = b ∧ B'.ab = B.ab ∧ B'.In P' ∧ (∀ e ∈ P, e ∈ P') ∧ All (poolC P' :: (B'.M ++ (B.M ++ cs))) w' := by
  obtain ⟨ao, c, hv, t0, t1, t2⟩ := doc_pre h.tail
  have L := hid (rList_any h.drew hi hn)
  have HI := hid hi
  have C : Hid (Calls Try.prog 18 #[.pointer (some ⟨B.b, 0, none⟩)] w.drew fun e w2 => ∃ va m vc, e = .returned (.slice va m vc) ∧ w2.cell? ⟨B.b, 0, none⟩ = some (.int .i64 B.r) ∧ w2.cell? ⟨B.b, 1, none⟩ = some (.int .i64 B.l) ∧ Hid (∃ (P' : List (Value × List UInt8)) (B' : Bg), B'.b = w2.heap.size ∧ B'.ab = B.ab ∧ B'.In P' ∧ (∀ e ∈ P, e ∈ P') ∧ All (poolC P' :: (B'.M ++ (B.M ++ cs))) (w2.alloc (.cells #[.int .i64 B.r, .int .i64 B.l, .slice va m vc] 75)))) := hid (by
    refine L.out.mono ?_
    rintro e w2 ⟨v, qs, rfl, hqs, A⟩
    obtain ⟨va, vc, rfl, -⟩ := owns6_form A.1.2.1
    have hb : w2.heap[B.b]? = some (.cells #[.int .i64 B.r, .int .i64 B.l, B.v] 75 (0, 0)) := (A.mem (c := blkC B.b [.int .i64 B.r, .int .i64 B.l, B.v] 75) (by simp)).2.1
    refine ⟨va, qs.length, vc, rfl, by rw [cell_at hb]; rfl, by rw [cell_at hb]; rfl, hid ⟨qs.map (fun q => (q.D, q.bs)) ++ P, Bg.mk w2.heap.size B.r B.l (.slice va qs.length vc) qs, rfl, ?_, ?_, fun e he => List.mem_append_right _ he, ?_⟩⟩
    · simp only [Bg.ab]
      rw [hqs]
    · intro q hq
      refine ⟨List.mem_append_left _ (List.mem_map.2 ⟨q, hq, rfl⟩), ?_⟩
      have hq2 : q.ap ∈ B.ps.map Pk.ap := by rw [← hqs]; exact List.mem_map_of_mem hq
      obtain ⟨p0, hp0, e0⟩ := List.mem_map.1 hq2
      have e1 : p0.bs = q.bs := congrArg AP.bs e0
      rw [← e1]
      exact (HI.out p0 hp0).2
    · have A1 := A.addBlk [.int .i64 B.r, .int .i64 B.l, .slice va qs.length vc] 75
      have A2 : All (datL qs ++ (poolC P :: (blkC w2.heap.size [.int .i64 B.r, .int .i64 B.l, .slice va qs.length vc] 75 :: pkC (.slice va qs.length vc) qs :: (B.M ++ cs)))) (w2.alloc (.cells #[.int .i64 B.r, .int .i64 B.l, .slice va qs.length vc] 75)) := A1.perm (List.perm_append_comm_assoc [blkC w2.heap.size [.int .i64 B.r, .int .i64 B.l, .slice va qs.length vc] 75, pkC (.slice va qs.length vc) qs] (datL qs ++ [poolC P]) (B.M ++ cs) |> fun z => by simpa using z)
      exact A2.poolAddL)
  clear L h hi hv
  obtain ⟨b, r, l, v, ps⟩ := B
  simp only at t0 t1 t2
  show Calls Try.prog 11 #[.pointer (some ⟨b, 0, none⟩)] w _
  go_enter Try.func11, Try.ntmps11
  go_wp2
  go_region_law (go_simp; go_at_call 18; refine C.out.mono ?_; rintro e w2 ⟨va, m, vc, rfl, z0, z1, A4⟩)
  all_goals (go_wp2; go_ret; obtain ⟨P', B', e1, e2, e3, e4, A5⟩ := A4.out; exact ⟨_, P', B', rfl, e1, e2, e3, e4, A5⟩)
end Go.Proofs.Ytpfpamkbahgkpaa

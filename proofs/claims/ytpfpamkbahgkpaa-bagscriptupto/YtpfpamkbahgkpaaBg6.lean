import Derived.Test.YtpfpamkbahgkpaaBg5
namespace Go.Proofs.Ytpfpamkbahgkpaa
open Go.RowKit
set_option linter.unusedVariables false

/-- Dup. -/
theorem Dup_any {B : Bg} {j : Int} {P : List (Value × List UInt8)} {cs : List Comp} {w : World} (h : All (poolC P :: (B.L ++ cs)) w) (hi : B.In P) {k : Nat} (ho : B.ab.Ok k) (hk : k < 4611686018427387904) :
    Calls Try.prog 29 #[B.V, .int .i64 j] w fun e w' => e = .returned (.int .i64 (B.ab.dupE j)) ∧ B.To (B.ab.dup j) P cs w' := by
  have hn : B.ps.length ≤ 1024 := by rw [← B.ab_len]; exact ho.small
  by_cases hh : hasB j B.ps.length = false
  · have hE : B.ab.dupE j = 152 := by unfold AB.dupE; rw [B.ab_len, if_pos hh]
    refine (Dup_no h.tail hn hh).mono ?_
    rintro e w' ⟨rfl, rfl⟩
    exact ⟨by rw [hE], P, B, rfl, by unfold AB.dup; rw [hE]; rfl, hi, fun e h => h, h⟩
  · have hh' : hasB j B.ps.length = true := by simpa using hh
    by_cases hf : fullB B.ps.length B.r = true
    · have hE : B.ab.dupE j = 155 := by unfold AB.dupE; rw [B.ab_len, B.ab_r, if_neg hh, if_pos hf]
      refine (Dup_full h.tail hn hh' hf).mono ?_
      rintro e w' ⟨rfl, q, rfl⟩
      exact ⟨by rw [hE], P, B, rfl, by unfold AB.dup; rw [hE]; rfl, hi, fun e h => h, h.drewN q⟩
    · have hE : B.ab.dupE j = 0 := by unfold AB.dupE; rw [B.ab_len, B.ab_r, if_neg hh, if_neg hf]
      have hl1 := ho.l1
      have hl0 := ho.l0
      obtain ⟨p, hp, hm, hat, hlt, hj⟩ := Bg.at_ps hh'
      generalize hjj : j.toNat = i at *
      subst hj
      refine (Dup_ok (h.perm (perm12 _ _ _ _)) hn hl0 (by have : B.ab.l = B.l := rfl; omega) hp (by simpa using hf)).mono ?_
      rintro e w' ⟨rfl, v, A⟩
      refine ⟨by rw [hE], P, B.lay p v, rfl, ?_, ?_, fun e h => h, A.perm (perm12 _ _ _ _).symm⟩
      · unfold AB.dup
        rw [if_pos hE, Bg.ab_lay, hat]
      · intro q hq
        simp only [Bg.lay, List.mem_append, List.mem_singleton] at hq
        rcases hq with hq | rfl
        · exact hi q hq
        · exact hi p hm

set_option maxHeartbeats 800000 in
set_option maxRecDepth 1000000 in
theorem At_no {B : Bg} {k : Int} {cs : List Comp} {w : World} (h : All (B.L ++ cs) w) (hn : B.ps.length ≤ 1024) (hk : hasB k B.ps.length = false) : Calls Try.prog 26 #[B.V, .int .i64 k] w fun e w' => e = .returned (.tuple #[Pk.zero.V, .bool false]) ∧ Below w.heap.size w w' := by
  have A0 := hid ((All.came w).addBlk Pk.zero.cells 49)
  have h := h.alloc (.cells Pk.zero.cells.toArray 49)
  obtain ⟨ao', c', hv, hc⟩ := h.bagForm
  have hb := All.bagBlk (cs := []) h
  rw [hv] at hb
  have D := hid (has_any hb (by omega) k)
  rw [hk] at D
  have eW : w.alloc (.cells #[.int .i64 0, .int .i64 0, .int .i64 0, .int .i64 0, .int .i64 0, .slice none 0 0] 49) = w.alloc (.cells Pk.zero.cells.toArray 49) := rfl
  clear h hb hv
  go_enter Try.func26, Try.ntmps26
  go_wp2_with fail
  refine D.out.mono ?_
  rintro e w1 ⟨rfl, hw⟩
  have A0 : Hid (All (blkC w.heap.size Pk.zero.cells 49 :: [inC w]) w1) := hid (by rw [hw]; exact A0.out)
  clear hw eW D
  obtain ⟨⟨s1, s2, s3, s4, s5, s6⟩, sf⟩ := pkAt_blk A0.out
  simp only [Nat.zero_add] at s1 s2 s3 s4 s5 s6
  have A1 : Hid (All (blkC w.heap.size Pk.zero.cells 49 :: [inC w]) (w1.setCells w.heap.size 0 Pk.zero.cells)) := hid (All.setBlks Pk.zero.cells Pk.zero.cells _ 0 A0.out)
  rw [set6] at A1
  simp only [Nat.zero_add] at A1
  clear A0
  go_wp2
  refine ret_pkB (fn := Try.f26) (b := w.heap.size) (x := Pk.zero) rfl rfl rfl A1.out.1.2.1 rfl ?_
  exact ⟨rfl, A1.out.into (w0 := w) (by simp)⟩

set_option maxHeartbeats 800000 in
set_option maxRecDepth 1000000 in
theorem At_yes {B : Bg} {i : Nat} {p : Pk} {cs : List Comp} {w : World} (h : All (B.L ++ cs) w) (hn : B.ps.length ≤ 1024) (hp : B.ps[i]? = some p) (hr : Reads w p.D p.bs) (hl : p.bs.length ≤ 140737488355328) : Calls Try.prog 26 #[B.V, .int .i64 (i : Int)] w fun e w' => ∃ H, e = .returned (.tuple #[(p.at H).V, .bool true]) ∧ All (byC (p.at H).D p.bs :: (B.L ++ cs)) w' := by
  have hi : i < B.ps.length := (List.getElem?_eq_some_iff.1 hp).1
  have A0 := h.addBlk Pk.zero.cells 49
  have hr := hr.below (ba w (.cells Pk.zero.cells.toArray 49))
  obtain ⟨g, c, hv, hg, hrg, _⟩ := row_at (All.bagRow (cs := [blkC w.heap.size Pk.zero.cells 49]) A0) hp
  have hb := All.bagBlk (cs := [blkC w.heap.size Pk.zero.cells 49]) A0
  rw [hv] at hb
  have D := hid (has_any hb (by omega) (i : Int))
  rw [show hasB (i : Int) B.ps.length = true from decide_eq_true (by omega)] at D
  have F := hid (told_any (p := p) A0 hr hl)
  have t2 : (w.alloc (.cells Pk.zero.cells.toArray 49)).cell? ⟨B.b, 2, none⟩ = some (.slice (some ⟨g, 0, none⟩) B.ps.length c) := by rw [cell_at hb]; rfl
  obtain ⟨s1, s2, s3, s4, s5, s6⟩ := pkAt_of hrg
  have eW : w.alloc (.cells #[.int .i64 0, .int .i64 0, .int .i64 0, .int .i64 0, .int .i64 0, .slice none 0 0] 49) = w.alloc (.cells Pk.zero.cells.toArray 49) := rfl
  clear h hb hv hp hrg hr A0
  obtain ⟨n, hnn⟩ : ∃ n, Hid (n = B.ps.length) := ⟨_, hid rfl⟩
  rw [← hnn.out] at t2 hi hn
  have hii : (i : Int) < (n : Int) := by omega
  go_enter Try.func26, Try.ntmps26
  go_wp2_with (first | (go_at_call 49; refine D.out.mono ?_; rintro e w' ⟨rfl, rfl⟩) | fail)
  refine F.out.mono ?_
  rintro e w2 ⟨H, rfl, A2⟩
  have A2 := hid A2
  clear F s1 s2 s3 s4 s5 s6 t2 eW hg
  obtain ⟨⟨s1, s2, s3, s4, s5, s6⟩, sf⟩ := pkAt_blk A2.out.tail
  simp only [Nat.zero_add] at s1 s2 s3 s4 s5 s6
  have A4 : Hid (All (blkC w.heap.size (p.at H).cells 49 :: byC (p.at H).D p.bs :: (B.L ++ cs)) (w2.setCells w.heap.size 0 (p.at H).cells)) := hid (All.setBlks (p.at H).cells Pk.zero.cells _ 0 A2.out.swap)
  rw [set6] at A4
  simp only [Nat.zero_add] at A4
  clear A2
  go_wp2
  refine ret_pkB (fn := Try.f26) (b := w.heap.size) (x := p.at H) rfl rfl rfl A4.out.1.2.1 rfl ?_
  exact ⟨H, rfl, A4.out.tail⟩
end Go.Proofs.Ytpfpamkbahgkpaa

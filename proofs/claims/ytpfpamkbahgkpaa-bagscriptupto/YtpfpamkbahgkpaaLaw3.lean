import Derived.Test.YtpfpamkbahgkpaaLaw2
namespace Go.Proofs.Ytpfpamkbahgkpaa
open Go.RowKit
set_option linter.unusedVariables false

theorem Bg.at_none {B : Bg} {j : Int} (h : hasB j B.ps.length = false) : B.ab.at j = Pk.zero.ap := by
  unfold AB.at
  rw [B.ab_len, h]
  rfl
/-- At. -/
theorem At_any {B : Bg} {j : Int} {P : List (Value × List UInt8)} {cs : List Comp} {w : World} (h : All (poolC P :: (B.L ++ cs)) w) (hi : B.In P) (hn : B.ps.length ≤ 1024) :
    Calls Try.prog 26 #[B.V, .int .i64 j] w fun e w' => ∃ p : Pk, e = .returned (.tuple #[p.V, .bool (hasB j B.ps.length)]) ∧ p.ap = B.ab.at j ∧ All (byC p.D p.bs :: poolC P :: (B.L ++ cs)) w' := by
  by_cases hh : hasB j B.ps.length = false
  · refine (At_no (h.perm (perm12 _ _ _ _)) hn hh).mono ?_
    rintro e w' ⟨rfl, hb⟩
    exact ⟨Pk.zero, by rw [hh], (Bg.at_none hh).symm, (h.later hb).addNil⟩
  · have hh' : hasB j B.ps.length = true := by simpa using hh
    obtain ⟨p, hp, hm, hat, hlt, hj⟩ := Bg.at_ps hh'
    rw [hh']
    generalize hjj : j.toNat = i at *
    subst hj
    refine (At_yes (h.perm (perm12 _ _ _ _)) hn hp (h.inReads (by simp) hi hm) (hi p hm).2).mono ?_
    rintro e w' ⟨H, rfl, A⟩
    exact ⟨p.at H, rfl, hat.symm, A.perm (List.Perm.cons _ (perm12 _ _ _ _).symm)⟩
/-- Take. -/
theorem Take_any {B : Bg} {j : Int} {P : List (Value × List UInt8)} {cs : List Comp} {w : World} (h : All (poolC P :: (B.L ++ cs)) w) (hi : B.In P) (hn : B.ps.length ≤ 1024) :
    Calls Try.prog 28 #[B.V, .int .i64 j] w fun e w' => ∃ (p : Pk) (B' : Bg), e = .returned (.tuple #[p.V, .int .i64 (B.ab.takeE j)]) ∧ p.ap = B.ab.at j ∧ B'.b = B.b ∧ B'.ab = B.ab.take j ∧ B'.In P ∧ All (byC p.D p.bs :: poolC P :: (B'.L ++ cs)) w' := by
  by_cases hh : hasB j B.ps.length = false
  · have hE : B.ab.takeE j = 152 := by unfold AB.takeE; rw [B.ab_len, if_neg (by rw [hh]; simp)]
    refine (Take_no (h.perm (perm12 _ _ _ _)) hn hh).mono ?_
    rintro e w' ⟨rfl, hb⟩
    exact ⟨Pk.zero, B, by rw [hE], (Bg.at_none hh).symm, rfl, by unfold AB.take; rw [hE]; rfl, hi, (h.later hb).addNil⟩
  · have hh' : hasB j B.ps.length = true := by simpa using hh
    have hE : B.ab.takeE j = 0 := by unfold AB.takeE; rw [B.ab_len, if_pos hh']
    obtain ⟨p, hp, hm, hat, hlt, hj⟩ := Bg.at_ps hh'
    generalize hjj : j.toNat = i at *
    subst hj
    refine (Take_yes (h.perm (perm12 _ _ _ _)) hn hp (h.inReads (by simp) hi hm) (hi p hm).2).mono ?_
    rintro e w' ⟨H, v, rfl, A⟩
    refine ⟨p.at H, Bg.mk B.b B.r B.l v (B.ps.eraseIdx i), by rw [hE], hat.symm, rfl, ?_, fun q hq => hi q (List.mem_of_mem_eraseIdx hq), A.perm (List.Perm.cons _ (perm12 _ _ _ _).symm)⟩
    unfold AB.take
    rw [if_pos hE]
    simp only [Bg.ab, Int.toNat_natCast]
    rw [List.eraseIdx_eq_take_drop_succ, List.eraseIdx_eq_take_drop_succ, List.map_append, List.map_take, List.map_drop]

/-- A step. -/
structure Op1 where
  s : Bool
  k : Int
  a : Int
  b : Int
  y : Int
  d : List UInt8
def AB.oneE (A : AB) (o : Op1) : Int := if o.k = 0 then A.addE o.a o.b else if o.k = 1 then A.takeE o.a else if o.k = 2 then A.dupE o.a else if o.k = 3 then A.flipE o.a o.b o.y else 0
def AB.one (A : AB) (o : Op1) : AB := if o.k = 0 then A.add o.a o.b o.d else if o.k = 1 then A.take o.a else if o.k = 2 then A.dup o.a else if o.k = 3 then A.flip o.a o.b o.y else if o.k = 4 then A.older else A
theorem AB.Ok.one {A : AB} {k : Nat} (h : A.Ok k) (o : Op1) : (A.one o).Ok (k + 1) := by
  unfold AB.one
  split
  · exact h.add _ _ _
  · split
    · exact h.take _
    · split
      · exact h.dup _
      · split
        · exact h.flip _ _ _
        · split
          · exact h.older
          · exact h.more (by omega)

theorem Bg.To.mono {B : Bg} {A : AB} {P : List (Value × List UInt8)} {cs : List Comp} {w : World} {c : Comp} (h : B.To A P (c :: cs) w) : B.To A P cs w := by
  obtain ⟨P', B', h1, h2, h3, h4, h5⟩ := h
  exact ⟨P', B', h1, h2, h3, h4, (h5.perm (List.Perm.cons _ List.perm_middle)).swap.tail⟩

set_option maxHeartbeats 1600000 in
set_option maxRecDepth 1000000 in
/-- A step at a bag. -/
theorem one_any {B : Bg} {o : Op1} {ao : Option Addr} {c : Nat} {P : List (Value × List UInt8)} {cs : List Comp} {w : World} (h : All (poolC P :: (B.L ++ cs)) w) (hi : B.In P) {k : Nat} (ho : B.ab.Ok k) (hk : k < 4611686018427387904) (hr : Reads w (.slice ao o.d.length c) o.d) (hl : o.d.length ≤ 140737488355328) :
    Calls Try.prog 20 #[B.V, .agg #[.bool o.s, .int .i64 o.k, .int .i64 o.a, .int .i64 o.b, .int .i64 o.y, .slice ao o.d.length c]] w fun e w' => e = .returned (.int .i64 (B.ab.oneE o)) ∧ B.To (B.ab.one o) P cs w' := by
  obtain ⟨so, ko, a, b, y, d⟩ := o
  simp only at hr hl
  have A0 := h.alloc (.cells #[.bool so, .int .i64 ko, .int .i64 a, .int .i64 b, .int .i64 y, .slice ao d.length c] 33)
  have R0 := hr.below (ba w (.cells #[.bool so, .int .i64 ko, .int .i64 a, .int .i64 b, .int .i64 y, .slice ao d.length c] 33))
  have hn : B.ps.length ≤ 1024 := by rw [← B.ab_len]; exact ho.small
  have C0 := hid (Add_any (f := a) (t := b) A0 hi ho hk R0 hl)
  have C1 := hid (Take_any (j := a) A0 hi hn)
  have C2 := hid (Dup_any (j := a) A0 hi ho hk)
  have C3 := hid (Flip_any (j := a) (x := b) (y := y) A0 hi ho)
  have C4 := hid (Older_any A0 hi ho hk)
  have A0 := hid A0
  clear h R0 hr hn
  simp only
  by_cases k0 : ko = 0
  · subst k0
    have e1 : B.ab.oneE ⟨so, 0, a, b, y, d⟩ = B.ab.addE a b := rfl
    have e2 : B.ab.one ⟨so, 0, a, b, y, d⟩ = B.ab.add a b d := rfl
    rw [e1, e2]
    generalize B.ab.addE a b = E at *
    go_enter Try.func20, Try.ntmps20
    go_wp2_with (go_at_call 24; refine C0.out.mono ?_; rintro e w1 ⟨rfl, T⟩; have T := hid T)
    go_ret
    exact ⟨rfl, T.out⟩
  · by_cases k1 : ko = 1
    · subst k1
      have e1 : B.ab.oneE ⟨so, 1, a, b, y, d⟩ = B.ab.takeE a := rfl
      have e2 : B.ab.one ⟨so, 1, a, b, y, d⟩ = B.ab.take a := rfl
      rw [e1, e2]
      generalize B.ab.takeE a = E at *
      clear k0
      go_enter Try.func20, Try.ntmps20
      go_wp2_with (go_at_call 28; refine C1.out.mono ?_; rintro e w1 ⟨p, B', rfl, -, t1, t2, t3, T⟩; have T := hid (show B.To (B.ab.take a) P cs w1 from ⟨P, B', t1, t2, t3, fun e h => h, T.tail⟩); clear t1 t2 t3)
      go_ret
      obtain ⟨P', B'', t1, t2, t3, t4, t5⟩ := T.out
      exact ⟨rfl, P', B'', t1, t2, t3, t4, t5.alloc _⟩
    · by_cases k2 : ko = 2
      · subst k2
        have e1 : B.ab.oneE ⟨so, 2, a, b, y, d⟩ = B.ab.dupE a := rfl
        have e2 : B.ab.one ⟨so, 2, a, b, y, d⟩ = B.ab.dup a := rfl
        rw [e1, e2]
        generalize B.ab.dupE a = E at *
        clear k0 k1
        go_enter Try.func20, Try.ntmps20
        go_wp2_with (go_at_call 29; refine C2.out.mono ?_; rintro e w1 ⟨rfl, T⟩; have T := hid T)
        go_ret
        exact ⟨rfl, T.out⟩
      · by_cases k3 : ko = 3
        · subst k3
          have e1 : B.ab.oneE ⟨so, 3, a, b, y, d⟩ = B.ab.flipE a b y := rfl
          have e2 : B.ab.one ⟨so, 3, a, b, y, d⟩ = B.ab.flip a b y := rfl
          rw [e1, e2]
          generalize B.ab.flipE a b y = E at *
          clear k0 k1 k2
          go_enter Try.func20, Try.ntmps20
          go_wp2_with (go_at_call 25; refine C3.out.mono ?_; rintro e w1 ⟨rfl, T⟩; have T := hid T)
          go_ret
          exact ⟨rfl, T.out⟩
        · have e1 : B.ab.oneE ⟨so, ko, a, b, y, d⟩ = 0 := by simp [AB.oneE, k0, k1, k2, k3]
          rw [e1]
          have b0 : (ko == 0) = false := by simpa using k0
          have b1 : (ko == 1) = false := by simpa using k1
          have b2 : (ko == 2) = false := by simpa using k2
          have b3 : (ko == 3) = false := by simpa using k3
          by_cases k4 : ko = 4
          · subst k4
            have e2 : B.ab.one ⟨so, 4, a, b, y, d⟩ = B.ab.older := rfl
            rw [e2]
            clear k0 k1 k2 k3 b0 b1 b2 b3
            go_enter Try.func20, Try.ntmps20
            go_wp2_with (go_at_call 38; refine C4.out.mono ?_; rintro e w1 ⟨rfl, T⟩; have T := hid T)
            go_ret
            exact ⟨rfl, T.out⟩
          · have e2 : B.ab.one ⟨so, ko, a, b, y, d⟩ = B.ab := by simp [AB.one, k0, k1, k2, k3, k4]
            rw [e2]
            have b4 : (ko == 4) = false := by simpa using k4
            go_enter Try.func20, Try.ntmps20
            go_wp2
            go_ret
            exact ⟨rfl, P, B, rfl, rfl, hi, fun e h => h, A0.out⟩
end Go.Proofs.Ytpfpamkbahgkpaa

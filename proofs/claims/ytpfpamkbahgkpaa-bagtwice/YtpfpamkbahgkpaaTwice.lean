import Derived.Test.YtpfpamkbahgkpaaLaw4
namespace Go.Proofs.Ytpfpamkbahgkpaa
open Go.RowKit
set_option linter.unusedVariables false

/-- A bag of two with one packet. -/
abbrev b1 (p : AP) : AB := AB.mk 2 1 [p]
theorem t_addE : (AB.mk 2 0 []).addE 1 9 = 0 := by decide +kernel
theorem t_add (l : List UInt8) : (AB.mk 2 0 []).add 1 9 l = b1 ⟨1, 1, 9, 0, 0, l⟩ := by
  unfold AB.add
  rw [if_pos t_addE]
  rfl
theorem t_at (p : AP) : (b1 p).at 0 = p := rfl
theorem t_has (p : AP) : hasB 0 (b1 p).ps.length = true := rfl
theorem t_place {p : AP} {x y : Int} (h : hasB x p.bs.length = false) : (b1 p).flipE 0 x y = 153 := by
  unfold AB.flipE
  rw [t_has, t_at, if_neg (by simp), if_pos h]
theorem t_same {p : AP} {x y : Int} (hx : hasB x p.bs.length = true) (h : y < 1 ∨ 255 < y ∨ (p.u ≠ 0 ∧ p.u ≠ x + 1)) : (b1 p).flipE 0 x y = 154 := by
  unfold AB.flipE
  rw [t_has, t_at, if_neg (by simp), if_neg (by rw [hx]; simp), if_pos h]
theorem t_ok {p : AP} {x y : Int} (hx : hasB x p.bs.length = true) (h : ¬ (y < 1 ∨ 255 < y ∨ (p.u ≠ 0 ∧ p.u ≠ x + 1))) : (b1 p).flipE 0 x y = 0 := by
  unfold AB.flipE
  rw [t_has, t_at, if_neg (by simp), if_neg (by rw [hx]; simp), if_neg h]
theorem t_stay {p : AP} {x y : Int} (h : (b1 p).flipE 0 x y ≠ 0) : (b1 p).flip 0 x y = b1 p := by
  unfold AB.flip
  rw [if_neg h]
theorem t_flip {p : AP} {x y : Int} (h : (b1 p).flipE 0 x y = 0) : (b1 p).flip 0 x y = b1 (p.flip x y) := by
  unfold AB.flip
  rw [if_pos h, t_at]
  rfl
theorem t_take (p : AP) : (b1 p).takeE 0 = 0 ∧ (b1 p).take 0 = AB.mk 2 1 [] := ⟨rfl, rfl⟩
theorem xor_ne (a : UInt8) {Y : Nat} (h1 : 1 ≤ Y) (h2 : Y ≤ 255) : a ^^^ UInt8.ofNat Y ≠ a := by
  intro h
  have h3 := congrArg (fun z => a ^^^ z) h
  simp only [← UInt8.xor_assoc, UInt8.xor_self, UInt8.zero_xor] at h3
  have h4 := congrArg UInt8.toNat h3
  rw [UInt8.toNat_ofNat', Nat.mod_eq_of_lt (by omega)] at h4
  have : (0 : UInt8).toNat = 0 := rfl
  omega
theorem flip_twice (p : AP) (x Y : Nat) (hx : x < p.bs.length) : ((p.flip x Y).flip x Y).bs = p.bs := by
  simp only [AP.flip, Int.toNat_natCast]
  rw [List.set_set, List.getD_eq_getElem?_getD, List.getElem?_set_self hx, List.getD_eq_getElem?_getD, List.getElem?_eq_getElem hx]
  simp only [Option.getD_some, UInt8.xor_assoc, UInt8.xor_self, UInt8.xor_zero]
  exact List.set_getElem_self hx
theorem flip_bs_ne (p : AP) (x Y : Nat) (hx : x < p.bs.length) (h1 : 1 ≤ Y) (h2 : Y ≤ 255) : alike (p.flip x Y).bs p.bs = false := by
  refine decide_eq_false (fun h => ?_)
  have h3 := congrArg (fun l => l[x]?) h
  simp only [AP.flip, Int.toNat_natCast] at h3
  rw [List.getElem?_set_self hx, List.getElem?_eq_getElem hx, List.getD_eq_getElem?_getD, List.getElem?_eq_getElem hx] at h3
  exact xor_ne _ h1 h2 (Option.some.inj h3)
theorem flip_near (p : AP) (x Y : Nat) (hx : x < p.bs.length) : Near (p.flip x Y).bs p.bs (p.flip x Y).u := by
  refine ⟨by simp [AP.flip], by simp only [AP.flip]; omega, by simp only [AP.flip]; omega, fun j hj hne => ?_⟩
  simp only [AP.flip, Int.toNat_natCast] at hne ⊢
  simp [List.getD_eq_getElem?_getD, List.getElem?_set_ne (show x ≠ j by omega)]

theorem Bg.same_v {B B' : Bg} (h : B'.b = B.b) : B'.V = B.V := by unfold Bg.V; rw [h]

set_option maxHeartbeats 3200000 in
set_option maxRecDepth 1000000 in
/-- THE LAW. -/
theorem twice_any {s : Value} {l : List UInt8} {x y : Int} {w : World} (hr : Reads w s l) (hl : l.length ≤ 140737488355328) : Calls Try.prog 6 #[s, .int .i64 x, .int .i64 y] w fun e w' => e = .returned (.bool true) ∧ Below w.heap.size w w' := by
  obtain ⟨ao, c, hs⟩ := hr.form
  subst hs
  have HR := hid hr
  have C0 := hid (shown_any (All.came w))
  obtain ⟨n, hn⟩ : ∃ n, Hid (n = l.length) := ⟨_, hid rfl⟩
  rw [← hn.out] at HR hl ⊢
  clear hr
  go_enter Try.func6, Try.ntmps6
  go_wp2_with fail
  refine C0.out.mono ?_
  rintro e w0 ⟨rfl, A0⟩
  have C1 := hid (New_ok (r := 2) A0 (by omega) (by omega))
  clear C0 A0
  go_wp2_with fail
  refine C1.out.mono ?_
  rintro e w1 ⟨b, rfl, A1⟩
  have B1 := A1.into (w0 := w) (by simp)
  have C2 := hid (Add_any (f := 1) (t := 9) A1.pool0 (fun p hp => by cases hp) (show (Bg.mk b 2 0 (.slice none 0 0) []).ab.Ok 0 from AB.Ok.new (r := 2) (by decide) (by decide)) (by omega) (HR.out.below B1) (by rw [← hn.out]; exact hl))
  have e0 : (Bg.mk b 2 0 (.slice none 0 0) []).ab = AB.mk 2 0 [] := rfl
  rw [e0, t_addE, t_add] at C2
  clear C1 A1 B1
  go_wp2_with fail
  refine C2.out.mono ?_
  rintro e w2 ⟨rfl, P2, B2, hb2, hab2, hin2, -, A2⟩
  simp only at hb2
  subst hb2
  clear C2 e0
  have ok2 : B2.ab.Ok 1 := by rw [hab2, ← t_add]; exact (AB.Ok.new (r := 2) (by decide) (by decide)).add 1 9 l
  have C3 := hid (Flip_any (j := 0) (x := x) (y := y) A2 hin2 ok2)
  rw [hab2] at C3
  clear A2 hin2 hab2
  by_cases hx : hasB x l.length = false
  · rw [t_stay (by rw [t_place hx]; omega), t_place hx] at C3
    have hx' : ¬ (0 ≤ x ∧ x < l.length) := of_decide_eq_false hx
    rw [← hn.out] at hx'
    by_cases hx0 : x < 0
    · clear hx'
      go_wp2_with fail
      refine C3.out.mono ?_
      rintro e w3 ⟨rfl, P3, B3, -, -, -, -, A3⟩
      have B3 := hid (A3.into (w0 := w) (by simp))
      clear A3
      go_wp2
      go_ret
      exact ⟨rfl, B3.out⟩
    · have hx1 : (n : Int) ≤ x := by omega
      clear hx'
      go_wp2_with fail
      refine C3.out.mono ?_
      rintro e w3 ⟨rfl, P3, B3, -, -, -, -, A3⟩
      have B3 := hid (A3.into (w0 := w) (by simp))
      clear A3
      go_wp2
      go_ret
      exact ⟨rfl, B3.out⟩
  · have hx2 : hasB x l.length = true := by simpa using hx
    have hx' : 0 ≤ x ∧ x < l.length := of_decide_eq_true hx2
    obtain ⟨X, rfl⟩ : ∃ X : Nat, x = (X : Int) := ⟨x.toNat, by omega⟩
    have hX : X < l.length := by omega
    have hXn : X < n := by rw [hn.out]; exact hX
    have hX1 : ¬ (X : Int) < 0 := by omega
    have hX2 : ¬ (n : Int) ≤ (X : Int) := by omega
    clear hx hx'
    have HX := hid hX
    clear hX
    by_cases hy : y < 1 ∨ 255 < y
    · have hy2 : y < 1 ∨ 255 < y ∨ ((0 : Int) ≠ 0 ∧ (0 : Int) ≠ (X : Int) + 1) := by omega
      rw [t_stay (by rw [t_same hx2 hy2]; omega), t_same hx2 hy2] at C3
      by_cases hy0 : y < 1
      · clear hy hy2
        go_wp2_with fail
        refine C3.out.mono ?_
        rintro e w3 ⟨rfl, P3, B3, -, -, -, -, A3⟩
        have B3 := hid (A3.into (w0 := w) (by simp))
        clear A3
        go_wp2
        go_ret
        exact ⟨rfl, B3.out⟩
      · have hy1 : 255 < y := by omega
        clear hy hy2
        go_wp2_with fail
        refine C3.out.mono ?_
        rintro e w3 ⟨rfl, P3, B3, -, -, -, -, A3⟩
        have B3 := hid (A3.into (w0 := w) (by simp))
        clear A3
        go_wp2
        go_ret
        exact ⟨rfl, B3.out⟩
    · obtain ⟨Y, rfl⟩ : ∃ Y : Nat, y = (Y : Int) := ⟨y.toNat, by omega⟩
      have hY1 : 1 ≤ Y := by omega
      have hY2 : Y ≤ 255 := by omega
      have hY3 : ¬ (Y : Int) < 1 := by omega
      have hY4 : ¬ (255 : Int) < (Y : Int) := by omega
      clear hy
      have hE := t_ok (p := ⟨1, 1, 9, 0, 0, l⟩) (y := (Y : Int)) hx2 (by simp only; omega)
      rw [t_flip hE, hE] at C3
      go_wp2_with fail
      refine C3.out.mono ?_
      rintro e w3 ⟨rfl, P3, B3, hb3, hab3, hin3, -, A3⟩
      have hl3 : B3.ps.length = 1 := by rw [← B3.ab_len, hab3]; rfl
      have ok3 : B3.ab.Ok 2 := by rw [hab3, ← t_flip hE, ← t_add]; exact ((AB.Ok.new (r := 2) (by decide) (by decide)).add 1 9 l).flip 0 X Y
      have C4 := hid (At_any (j := 0) A3 hin3 (by omega))
      rw [hl3, hab3, t_at, Bg.same_v hb3, show hasB 0 1 = true from rfl] at C4
      clear C3 A3 ok2
      go_wp2_with fail
      refine C4.out.mono ?_
      rintro e w4 ⟨p, rfl, hap, A4⟩
      clear C4
      obtain ⟨F, hF⟩ : ∃ F, Hid (F = (AP.mk 1 1 9 0 0 l).flip X Y) := ⟨_, hid rfl⟩
      have hpb : Hid (p.bs = F.bs) := hid (by rw [hF.out]; exact congrArg AP.bs hap)
      have hpl : p.bs.length = n := by rw [hpb.out, hF.out, hn.out]; simp [AP.flip]
      have hpu : p.u = (X : Int) + 1 := congrArg AP.u hap
      have A5 := hid (A4.addBlk p.cells 49)
      have eW : w4.alloc (.cells #[.int .i64 p.n, .int .i64 p.f, .int .i64 p.t, .int .i64 p.a, .int .i64 p.u, .slice p.ao p.bs.length p.c] 49) = w4.alloc (.cells p.cells.toArray 49) := rfl
      have RP : Hid (∀ W cs, All (blkC w4.heap.size p.cells 49 :: byC p.D p.bs :: cs) W → Reads W (.slice p.ao p.bs.length p.c) p.bs) := hid (fun W cs A => A.byReads (v := p.D) (l := p.bs) (by simp))
      have S1 := hid (same_any (RP.out _ _ A5.out) (HR.out.below (A5.out.into (w0 := w) (by simp))) (by rw [hpl]; exact hl) (by rw [← hn.out]; exact hl))
      rw [show alike p.bs l = false by rw [hpb.out, hF.out]; exact flip_bs_ne _ X Y HX.out hY1 hY2] at S1
      have N1 : Hid (Near p.bs l p.u) := hid (by
        have := flip_near (AP.mk 1 1 9 0 0 l) X Y HX.out
        rw [← hF.out, ← hpb.out, show F.u = p.u by rw [hF.out]; exact hpu.symm] at this
        exact this)
      have HPU := hid hpu
      have hpm : p.bs.length ≤ 140737488355328 := by omega
      clear A4 hpl hpu
      obtain ⟨⟨s1, s2, s3, s4, s5, s6⟩, sf⟩ := pkAt_blk A5.out
      simp only [Nat.zero_add] at s1 s2 s3 s4 s5 s6
      go_wp2_with fail
      refine S1.out.mono ?_
      rintro e w5 ⟨rfl, q5, hw5⟩
      have A6 : Hid (All (blkC w4.heap.size p.cells 49 :: byC p.D p.bs :: poolC P3 :: (B3.L ++ [inC w])) w5) := hid (by rw [hw5]; exact A5.out.drewN q5)
      clear hw5 eW S1 A5 s1 s2 s3 s4 s5 s6 sf
      obtain ⟨⟨s1, s2, s3, s4, s5, s6⟩, sf⟩ := pkAt_blk A6.out
      simp only [Nat.zero_add] at s1 s2 s3 s4 s5 s6
      have S2 := hid (nearly_true (p := p) (A6.out.byReads (v := p.D) (l := p.bs) (by simp)) (HR.out.below (A6.out.into (w0 := w) (by simp))) (by rw [← hn.out]; exact hl) N1.out)
      go_wp2_with fail
      refine S2.out.mono ?_
      rintro e w6 ⟨rfl, hb6⟩
      have A7 := hid (A6.out.later hb6)
      clear s1 s2 s3 s4 s5 s6 sf S2 A6 hb6
      obtain ⟨⟨s1, s2, s3, s4, s5, s6⟩, sf⟩ := pkAt_blk A7.out
      simp only [Nat.zero_add] at s1 s2 s3 s4 s5 s6
      rw [HPU.out] at s5
      have A8 : All (poolC P3 :: (B3.L ++ (blkC w4.heap.size p.cells 49 :: byC p.D p.bs :: [inC w]))) w6 := A7.out.perm (by
        have := perm_by 4 [[blkC w4.heap.size p.cells 49], [byC p.D p.bs], [poolC P3] ++ B3.L, [inC w]] [2, 0, 1, 3] rfl (by decide)
        simpa [List.getD] using this)
      have C5 := hid (Flip_any (j := 0) (x := (X : Int)) (y := (Y : Int)) A8 hin3 ok3)
      have hE2 : (b1 ((AP.mk 1 1 9 0 0 l).flip X Y)).flipE 0 X Y = 0 := t_ok (by simpa [AP.flip] using hx2) (by simp only [AP.flip]; omega)
      rw [hab3, t_flip hE2, hE2, Bg.same_v hb3] at C5
      clear A7 A8
      go_wp2_with fail
      refine C5.out.mono ?_
      rintro e w7 ⟨rfl, P7, B7, hb7, hab7, hin7, -, A9⟩
      have ok7 : B7.ab.Ok 3 := by rw [hab7, ← t_flip hE2, ← hab3]; exact ok3.flip 0 X Y
      obtain ⟨G, hG⟩ : ∃ G, Hid (G = ((AP.mk 1 1 9 0 0 l).flip X Y).flip X Y) := ⟨_, hid rfl⟩
      rw [← hG.out] at hab7
      have hGb : Hid (G.bs = l) := hid (by rw [hG.out]; exact flip_twice (AP.mk 1 1 9 0 0 l) X Y HX.out)
      have hE3 : (b1 G).flipE 0 ((X : Int) - 1) 1 ≠ 0 := by
        have hGu : G.u = (X : Int) + 1 := by rw [hG.out]; rfl
        by_cases h0 : hasB ((X : Int) - 1) G.bs.length = false
        · rw [t_place h0]; omega
        · rw [t_same (by simpa using h0) (by omega)]; omega
      have C6 := hid (Flip_any (j := 0) (x := (X : Int) - 1) (y := 1) A9 hin7 ok7)
      rw [hab7, t_stay hE3, Bg.same_v hb7, Bg.same_v hb3] at C6
      generalize hE4 : (b1 G).flipE 0 ((X : Int) - 1) 1 = E4 at C6 hE3
      clear A9 C5 hE2 hE4 s1 s2 s3 s4 s5 s6 sf
      go_wp2_with fail
      refine C6.out.mono ?_
      rintro e w8 ⟨rfl, P8, B8, hb8, hab8, hin8, -, A10⟩
      have hl8 : B8.ps.length = 1 := by rw [← B8.ab_len, hab8]; rfl
      have C7 := hid (Take_any (j := 0) A10 hin8 (by omega))
      rw [hab8, t_at, (t_take G).1, (t_take G).2, Bg.same_v hb8, Bg.same_v hb7, Bg.same_v hb3] at C7
      clear A10 C6
      go_wp2_with fail
      refine C7.out.mono ?_
      rintro e w9 ⟨r, B9, rfl, hrp, hb9, hab9, -, A11⟩
      clear C7
      have A12 : All (blkC w4.heap.size p.cells 49 :: byC r.D r.bs :: poolC P8 :: (B9.L ++ (byC p.D p.bs :: [inC w]))) w9 := A11.perm (by
        have := perm_by 4 [[byC r.D r.bs], [poolC P8] ++ B9.L, [blkC w4.heap.size p.cells 49], [byC p.D p.bs] ++ [inC w]] [2, 0, 1, 3] rfl (by decide)
        simpa [List.getD] using this)
      obtain ⟨⟨s1, s2, s3, s4, s5, s6⟩, sf⟩ := pkAt_blk A12
      simp only [Nat.zero_add] at s1 s2 s3 s4 s5 s6
      have A13 : Hid (All (blkC w4.heap.size r.cells 49 :: byC r.D r.bs :: poolC P8 :: (B9.L ++ (byC p.D p.bs :: [inC w]))) (w9.setCells w4.heap.size 0 r.cells)) := hid (All.setBlks r.cells p.cells w9 0 A12)
      rw [set6] at A13
      simp only [Nat.zero_add] at A13
      have hrb : r.bs = l := by rw [← hGb.out]; exact congrArg AP.bs hrp
      have hrl : r.bs.length = n := by rw [hrb, hn.out]
      have hr0 : r.n = 1 := by have := congrArg AP.n hrp; rw [hG.out] at this; exact this
      have hr1 : r.f = 1 := by have := congrArg AP.f hrp; rw [hG.out] at this; exact this
      have hr2 : r.t = 9 := by have := congrArg AP.t hrp; rw [hG.out] at this; exact this
      have hl9 : B9.ps.length = 0 := by rw [← B9.ab_len, hab9]; rfl
      have E5 : (E4 == 0) = false := by simpa using hE3
      have E6 : (E4 != 0) = true := by simpa using hE3
      have C8 := hid (Len_any (A13.out.perm (by
        have := perm_by 5 [[blkC w4.heap.size r.cells 49], [byC r.D r.bs], [poolC P8], B9.L, byC p.D p.bs :: [inC w]] [3, 0, 1, 2, 4] rfl (by decide)
        simpa [List.getD] using this)) (by omega))
      rw [hl9, Bg.same_v hb9, Bg.same_v hb8, Bg.same_v hb7, Bg.same_v hb3] at C8
      have HQ := hid (And.intro hrb (And.intro hrl (And.intro hr0 (And.intro hr1 hr2))))
      clear A11 A12 hrb hrl hr0 hr1 hr2 hl9 hb9 hb8 hb7 hb3 hl3 hl8
      go_wp2_with fail
      refine C8.out.mono ?_
      rintro e w10 ⟨rfl, hw10⟩
      have A14 : Hid (All (blkC w4.heap.size r.cells 49 :: byC r.D r.bs :: poolC P8 :: (B9.L ++ (byC p.D p.bs :: [inC w]))) w10) := hid (by rw [hw10]; exact A13.out)
      clear hw10 s1 s2 s3 s4 s5 s6 sf A13 C8
      obtain ⟨⟨s1, s2, s3, s4, s5, s6⟩, sf⟩ := pkAt_blk A14.out
      simp only [Nat.zero_add] at s1 s2 s3 s4 s5 s6
      rw [HQ.out.2.1] at s6
      rw [HQ.out.2.2.1] at s1
      rw [HQ.out.2.2.2.1] at s2
      rw [HQ.out.2.2.2.2] at s3
      have S3 : Hid (Calls Try.prog 27 #[.slice r.ao n r.c, .slice ao n c] w10 (fun e w' => e = .returned (.bool true) ∧ ∃ q, w' = w10.drewN q)) := hid (by
        have R1 : Reads w10 (.slice r.ao r.bs.length r.c) r.bs := A14.out.byReads (v := r.D) (l := r.bs) (by simp)
        have h3 := same_any R1 (HR.out.below (A14.out.into (w0 := w) (by simp))) (by rw [HQ.out.2.1]; exact hl) (by rw [← hn.out]; exact hl)
        rw [HQ.out.2.1, HQ.out.1, alike_self] at h3
        exact h3)
      have BW := hid (A14.out.into (w0 := w) (by simp))
      clear A14
      have hd : Hid (∀ q, Below w.heap.size w (w10.drewN q)) := hid (fun q => BW.out.trans ((bdN w10 q).mono BW.out.size))
      go_wp2_with fail
      refine S3.out.mono ?_
      rintro e w11 ⟨rfl, q11, rfl⟩
      go_wp2
      go_ret
      exact ⟨rfl, hd.out q11⟩
end Go.Proofs.Ytpfpamkbahgkpaa

import Derived.Test.YtaomhahmpbfjhaaJ10
import Derived.Test.YtaomhahmpbfjhaaJ11
import Derived.Test.YtaomhahmpbfjhaaJ6
import Derived.Test.YtaomhahmpbfjhaaJ12
import Derived.Test.YtaomhahmpbfjhaaJ14
import Derived.Test.YtaomhahmpbfjhaaJ13
namespace Go.Proofs.Ytaomhahmpbfjhaa
open Go.RowKit
set_option linter.unusedVariables false

/-- The document's book, as it is read. -/
structure RAt (w : World) (R : Nat) (ao : Option Addr) (c : Nat) (rs : List Xs) : Prop where
  c0 : w.cell? ⟨R, 0, none⟩ = some (.slice ao rs.length c)
  row : w.ownsRow 0 51 3 (.slice ao rs.length c) rs.length (flatX rs)
  lt : ∀ k ∈ (Value.slice ao rs.length c).ownBlock.toList, k < w.heap.size
theorem RAt.of {w : World} {R : Nat} {v : Value} {rs : List Xs} {cs : List Comp} (hA : All (refL R v rs ++ cs) w) : ∃ ao c, v = .slice ao rs.length c ∧ RAt w R ao c rs := by
  have hb : w.heap[R]? = some (.cells [v].toArray 72 (0, 0)) := hA.blk (by simp [refL])
  have hm := hA.mem (c := rowC 51 3 v rs.length (flatX rs)) (by simp [refL])
  obtain ⟨ao, c, rfl⟩ := owns_form (show w.ownsRow 0 51 3 v rs.length (flatX rs) from hm.2.1)
  exact ⟨ao, c, rfl, by rw [cell_at hb]; rfl, hm.2.1, hm.2.2⟩
theorem RAt.later {w w' : World} {R : Nat} {ao : Option Addr} {c : Nat} {rs : List Xs} (h : RAt w R ao c rs) (hb : Below w.heap.size w w') : RAt w' R ao c rs :=
  ⟨cell_under hb (World.block_lt_of_cell? _ _ h.c0) h.c0, owns_keep h.row (fun k hk => hb.block k (h.lt k hk)), fun k hk => Nat.lt_of_lt_of_le (h.lt k hk) hb.size⟩

theorem below2 {a b c : World} (h : Below a.heap.size a b) (k : Below b.heap.size b c) : Below a.heap.size a c :=
  ⟨k.os.trans h.os, k.tape.trans h.tape, k.output.trans h.output, Nat.le_trans h.size k.size, fun i hi => (k.block i (Nat.lt_of_lt_of_le hi h.size)).trans (h.block i hi)⟩
set_option maxRecDepth 1000000 in
set_option maxHeartbeats 1600000 in
theorem stamp_any {w : World} {R n c : Nat} {ao : Option Addr} {rs : List Xs} {S : Sheets} (h : RAt w R ao c rs) (hS : RS n rs S) (hz : ∀ i, n ≤ i → S i = (0, [])) (i : Nat) (hi : i ≤ 1000) (hn : n ≤ 64) : Calls Try.prog 54 #[.pointer (some ⟨R, 0, none⟩), .int .i64 (i : Int)] w fun e w' => e = .returned (.int .i64 ((S i).1 : Int)) ∧ Below w.heap.size w w' := by
  have c0 := h.c0
  have hl := hS.len
  by_cases hlt : i < rs.length
  · obtain ⟨y, hy⟩ : ∃ y, rs[i]? = some y := ⟨_, List.getElem?_eq_getElem hlt⟩
    obtain ⟨gr, rfl, hg, y0, y1, y2⟩ := row_at h.row hy
    have hs := hid (hS.each i y hy)
    have l1 : decide ((i : Int) < (rs.length : Int)) = true := decide_eq_true (by omega)
    have l2 : (i : Int) < (rs.length : Int) := by omega
    clear hy h hS hz
    go_enter Try.func54, Try.ntmps54
    go_wp2
    go_ret
    refine ⟨?_, Below.refl _ _⟩
    rw [← hs.out.2]
    rfl
  · have l1 : decide ((i : Int) < (rs.length : Int)) = false := decide_eq_false (by omega)
    have l2 : ¬ (i : Int) < (rs.length : Int) := by omega
    have hs := hid (hz i (by omega))
    clear h hS hz
    go_enter Try.func54, Try.ntmps54
    go_wp2
    go_ret
    refine ⟨?_, Below.refl _ _⟩
    rw [hs.out]
    rfl

/-- How many nodes are looked at. -/
def lk (S : Sheets) (a : Nat) : Nat → Nat → Nat
  | _, 0 => 1
  | f, e + 1 => if mx S f (2 ^ (e + 1)) ≤ a then 1 else 1 + lk S a f e + lk S a (f + 2 ^ e) e
theorem lk_vis {P : Pool} {n h a : Nat} {ps : List Nat} {N : Nodes} {S : Sheets} (hB : Bk P n (2 ^ h) ps N S) : ∀ e d q, d + e = h → q < 2 ^ d → lk S a (q * 2 ^ e) e = (vis N a e (2 ^ d + q)).length
  | 0, d, q, _, _ => by simp [lk, vis]
  | e + 1, d, q, hd, hq => by
    rw [lk, vis, hB.at (e + 1) d q hd hq]
    by_cases hm : mx S (q * 2 ^ (e + 1)) (2 ^ (e + 1)) ≤ a
    · rw [if_pos hm, if_pos hm]; rfl
    · rw [if_neg hm, if_neg hm]
      have hp : 2 ^ (d + 1) = 2 * 2 ^ d := by rw [Nat.pow_succ]; omega
      have i1 := lk_vis hB e (d + 1) (2 * q) (by omega) (by omega) (a := a)
      have i2 := lk_vis hB e (d + 1) (2 * q + 1) (by omega) (by omega) (a := a)
      have e1 : 2 * q * 2 ^ e = q * 2 ^ (e + 1) := by rw [Nat.pow_succ]; rw [Nat.mul_comm 2 q, Nat.mul_assoc, Nat.mul_comm 2 (2 ^ e)]
      have e2 : (2 * q + 1) * 2 ^ e = q * 2 ^ (e + 1) + 2 ^ e := by rw [Nat.add_mul, e1, Nat.one_mul]
      have k1 : 2 ^ (d + 1) + 2 * q = 2 * (2 ^ d + q) := by omega
      have k2 : 2 ^ (d + 1) + (2 * q + 1) = 2 * (2 ^ d + q) + 1 := by omega
      rw [e1, k1] at i1
      rw [e2, k2] at i2
      rw [i1, i2]
      simp [List.length_append]
      omega
theorem lk_le (S : Sheets) (a : Nat) : ∀ e f, lk S a f e + 1 ≤ 2 ^ (e + 1)
  | 0, f => by simp [lk]
  | e + 1, f => by
    have h1 := lk_le S a e f
    have h2 := lk_le S a e (f + 2 ^ e)
    have hp : 2 ^ (e + 1 + 1) = 2 * 2 ^ (e + 1) := by rw [Nat.pow_succ 2 (e + 1)]; omega
    rw [lk]
    split <;> omega

def LkC (R a : Nat) (S : Sheets) (ao : Option Addr) (c : Nat) (rs : List Xs) (e : Nat) : Prop := ∀ (f : Nat), f + 2 ^ e ≤ 64 → ∀ w : World, RAt w R ao c rs → Calls Try.prog 49 #[.pointer (some ⟨R, 0, none⟩), .int .i64 (a : Int), .int .i64 (f : Int), .int .i64 ((2 ^ e : Nat) : Int)] w fun r w' => r = .returned (.int .i64 (lk S a f e : Int)) ∧ Below w.heap.size w w'
set_option maxRecDepth 1000000 in
set_option maxHeartbeats 3200000 in
theorem looks_step {R n c a : Nat} {ao : Option Addr} {rs : List Xs} {S : Sheets} (hS : RS n rs S) (hz : ∀ i, n ≤ i → S i = (0, [])) (hcap : ∀ i, (S i).1 ≤ 1099511627776) (hn : n ≤ 64) (e : Nat) (he : e ≤ 6) (IH : ∀ e', e = e' + 1 → LkC R a S ao c rs e') : LkC R a S ao c rs e := by
  intro f hf w hR
  obtain ⟨m, hm⟩ : ∃ m, Hid (m = 2 ^ e) := ⟨_, hid rfl⟩
  have hfm : f + m ≤ 64 := by rw [hm.out]; exact hf
  have ST := hid (fun (W : World) (i : Nat) (hb : Below w.heap.size w W) (hi : i ≤ 1000) => stamp_any (hR.later hb) hS hz i hi hn)
  have HR := hid hR
  have HI := hid IH
  have HC := hid hcap
  rw [← hm.out]
  clear hR hS hz IH hcap hf
  go_enter Try.func49, Try.ntmps49
  go_wp2_with fail
  go_loopw [9, 10] (fun p9 p10 wr => ∃ x y : Nat, f ≤ x ∧ x ≤ f + m ∧ p10 = .int .i64 (x : Int) ∧ p9 = .int .i64 (y : Int) ∧ Hid (y = mx S f (x - f)) ∧ Hid (Below w.heap.size w wr)) (fun _ p10 _ => f + m - (intOf p10).toNat)
  case atStart => exact ⟨f, 0, by omega, by omega, rfl, rfl, hid (by rw [Nat.sub_self]; rfl), hid (Below.refl _ _)⟩
  case round =>
    obtain ⟨x, y, h1, h2, rfl, rfl, hy, hbw⟩ := hrel
    by_cases hlt : x < f + m
    · have l1 : decide ((x : Int) < (f : Int) + (m : Int)) = true := decide_eq_true (by omega)
      have l2 : (x : Int) < (f : Int) + (m : Int) := by omega
      have hx1 : Hid (mx S f (x + 1 - f) = max y (S x).1) := hid (by
        rw [show x + 1 - f = (x - f) + 1 by omega, mx, ← hy.out, show f + (x - f) = x by omega])
      have hc := HC.out x
      obtain ⟨z, hz⟩ : ∃ z, Hid (z = (S x).1) := ⟨_, hid rfl⟩
      rw [← hz.out] at hc
      have C54 := hid (ST.out wr x hbw.out (by omega))
      rw [← hz.out] at C54
      go_wp2_with fail
      refine C54.out.mono ?_
      rintro e2 w2 ⟨rfl, hb2⟩
      have hbw2 := hid (below2 hbw.out hb2)
      clear C54 hb2
      by_cases hg : y < z
      · have g1 : decide ((y : Int) < (z : Int)) = true := decide_eq_true (by omega)
        have g2 : (y : Int) < (z : Int) := by omega
        have C54 := hid (ST.out w2 x hbw2.out (by omega))
        rw [← hz.out] at C54
        go_wp2_with fail
        refine C54.out.mono ?_
        rintro e3 w3 ⟨rfl, hb3⟩
        have hbw3 := hid (below2 hbw2.out hb3)
        clear C54 hb3
        go_wp2_with fail
        go_roundw
        case rel => exact ⟨x + 1, z, by omega, by omega, by go_num, rfl, hid (by rw [hx1.out, ← hz.out]; omega), hbw3⟩
        case measure => simp [intOf]; omega
      · have g1 : decide ((y : Int) < (z : Int)) = false := decide_eq_false (by omega)
        have g2 : ¬ (y : Int) < (z : Int) := by omega
        go_wp2_with fail
        go_roundw
        case rel => exact ⟨x + 1, y, by omega, by omega, by go_num, rfl, hid (by rw [hx1.out, ← hz.out]; omega), hbw2⟩
        case measure => simp [intOf]; omega
    · have l1 : decide ((x : Int) < (f : Int) + (m : Int)) = false := decide_eq_false (by omega)
      have l2 : ¬ (x : Int) < (f : Int) + (m : Int) := by omega
      have hx : x - f = m := by omega
      rw [hx] at hy
      cases e with
      | zero =>
        have hm1 : m = 1 := hm.out
        subst hm1
        go_wp2
        go_ret
        exact ⟨rfl, hbw.out⟩
      | succ e =>
        obtain ⟨k, hk⟩ : ∃ k, Hid (k = 2 ^ e) := ⟨_, hid rfl⟩
        have hk1 : 1 ≤ k := by rw [hk.out]; exact Nat.pow_pos (by omega)
        have hmk : m = 2 * k := by rw [hm.out, hk.out, Nat.pow_succ]; omega
        have n1 : ¬ (m : Int) = 1 := by omega
        have n2 : decide ((m : Int) = 1) = false := decide_eq_false n1
        by_cases ham : y ≤ a
        · have g1 : decide ((y : Int) ≤ (a : Int)) = true := decide_eq_true (by omega)
          have g2 : (y : Int) ≤ (a : Int) := by omega
          have hlk : Hid (lk S a f (e + 1) = 1) := hid (by rw [lk, ← hm.out, ← hy.out, if_pos ham])
          go_wp2
          go_ret
          refine ⟨?_, hbw.out⟩
          rw [hlk.out]
          rfl
        · have g1 : decide ((y : Int) ≤ (a : Int)) = false := decide_eq_false (by omega)
          have g2 : ¬ (y : Int) ≤ (a : Int) := by omega
          have hq : (m : Int) / 2 = (k : Int) := by omega
          have C1 := hid (HI.out e rfl f (by rw [← hk.out]; omega) wr (HR.out.later hbw.out))
          have hlk : Hid (lk S a f (e + 1) = 1 + lk S a f e + lk S a (f + k) e) := hid (by rw [lk, ← hm.out, ← hy.out, if_neg ham, ← hk.out])
          have b1 := lk_le S a e f
          have b2 := lk_le S a e (f + k)
          have hp : 2 ^ (e + 1) ≤ 64 := by rw [← hm.out]; omega
          generalize lk S a f e = r1 at *
          rw [← hk.out] at C1
          go_wp2_with fail
          refine C1.out.mono ?_
          rintro e2 w2 ⟨rfl, hb2⟩
          have hbw2 := hid (below2 hbw.out hb2)
          have C2 := hid (HI.out e rfl (f + k) (by rw [← hk.out]; omega) w2 (HR.out.later hbw2.out))
          generalize lk S a (f + k) e = r2 at *
          rw [← hk.out] at C2
          have C3 : Hid (Calls Try.prog 49 #[.pointer (some ⟨R, 0, none⟩), .int .i64 (a : Int), .int .i64 ((f : Int) + (k : Int)), .int .i64 (k : Int)] w2 fun r w' => r = .returned (.int .i64 (r2 : Int)) ∧ Below w2.heap.size w2 w') := C2
          clear C1 C2 hb2
          have s1 : r1 + r2 ≤ 200 := by omega
          go_wp2_with fail
          refine C3.out.mono ?_
          rintro e3 w3 ⟨rfl, hb3⟩
          have hbw3 := hid (below2 hbw2.out hb3)
          clear C3 hb3
          go_wp2
          go_ret
          refine ⟨?_, hbw3.out⟩
          rw [hlk.out]
          show Ending.returned (Value.int .i64 (1 + (r1 : Int) + (r2 : Int))) = Ending.returned (Value.int .i64 ((1 + r1 + r2 : Nat) : Int))
          rw [show ((1 + r1 + r2 : Nat) : Int) = 1 + (r1 : Int) + (r2 : Int) by omega]
theorem looks_any {R n c a : Nat} {ao : Option Addr} {rs : List Xs} {S : Sheets} (hS : RS n rs S) (hz : ∀ i, n ≤ i → S i = (0, [])) (hcap : ∀ i, (S i).1 ≤ 1099511627776) (hn : n ≤ 64) : ∀ e, e ≤ 6 → LkC R a S ao c rs e
  | 0, he => looks_step hS hz hcap hn 0 he (fun e' h => by omega)
  | e + 1, he => looks_step hS hz hcap hn (e + 1) he (fun e' h => by
    have : e' = e := by omega
    subst this
    exact looks_any hS hz hcap hn e' (by omega))

theorem pow_one_of {j h n : Nat} (h1 : n ≤ 2 ^ j) (h2 : 2 ^ j < 2 * n) (h3 : n ≤ 2 ^ h) (h4 : 2 ^ h < 2 * n) : j = h := by
  rcases Nat.lt_trichotomy j h with hl | rfl | hl
  · have : 2 ^ (j + 1) ≤ 2 ^ h := Nat.pow_le_pow_right (by omega) hl
    rw [Nat.pow_succ] at this
    omega
  · rfl
  · have : 2 ^ (h + 1) ≤ 2 ^ j := Nat.pow_le_pow_right (by omega) hl
    rw [Nat.pow_succ] at this
    omega
set_option maxRecDepth 1000000 in
set_option maxHeartbeats 1600000 in
/-- The document's Looks. -/
theorem rLooks_all {w : World} {R n h : Nat} {v : Value} {rs : List Xs} {cs : List Comp} {S : Sheets} {P : Pool} {ps : List Nat} {N : Nodes} {at_ : Int} (hA : All (refL R v rs ++ cs) w) (hS : RS n rs S) (hB : Bk P n (2 ^ h) ps N S) (hh : h ≤ 6) (hat : at_ ≤ 9223372036854775807) :
    Calls Try.prog 29 #[.pointer (some ⟨R, 0, none⟩), .int .i64 at_] w fun e w' => e = .returned (.int .i64 (looksN N at_ h)) ∧ Below w.heap.size w w' := by
  obtain ⟨ao, c, rfl, hR⟩ := RAt.of hA
  have hn : n ≤ 64 := Nat.le_trans hB.nlv hB.lv64
  have hl := hS.len
  have n1 := hB.n1
  have nlv := hB.nlv
  have lvn := hB.lvn
  have LK := hid (fun W (hb : Below w.heap.size w W) (j : Nat) (hj : j ≤ 6) (hf : 0 + 2 ^ j ≤ 64) => looks_any (a := at_.toNat) hS hB.zero (fun i => (hB.cap i).1) hn j hj 0 hf W (hR.later hb))
  have HV : Hid (lk S at_.toNat 0 h = looksN N at_ h) := hid (by
    have := lk_vis (a := at_.toNat) hB h 0 0 (by omega) (by simp)
    simpa [looksN] using this)
  have c0 := hR.c0
  have HR := hid hR
  clear hA hS hB hR c0
  by_cases hneg : at_ < 0
  · have g1 : decide (at_ < 0) = true := decide_eq_true hneg
    have ht : (at_.toNat : Int) = 0 := by omega
    go_enter Try.func29, Try.ntmps29
    go_wp2_with fail
    go_loopw [5] (fun p5 wr => ∃ j q : Nat, p5 = .int .i64 (q : Int) ∧ j ≤ h ∧ q ≤ 64 ∧ 1 ≤ q ∧ Hid (q = 2 ^ j) ∧ Hid (Below w.heap.size w wr)) (fun p5 _ => 128 - (intOf p5).toNat)
    case atStart => exact ⟨0, 1, rfl, by omega, by omega, by omega, hid rfl, hid (Below.refl _ _)⟩
    case round =>
      obtain ⟨j, q, rfl, hj, hq, hq1, hqe, hbw⟩ := hrel
      have d0 := (HR.out.later hbw.out).c0
      by_cases hlt : q < rs.length
      · have l1 : decide ((q : Int) < (rs.length : Int)) = true := decide_eq_true (by omega)
        have l2 : (q : Int) < (rs.length : Int) := by omega
        have hj1 : j < h := by
          rcases Nat.lt_or_ge j h with hl | hge
          · exact hl
          · have : 2 ^ h ≤ 2 ^ j := Nat.pow_le_pow_right (by omega) hge
            rw [← hqe.out] at this
            omega
        have hq2 : q * 2 ≤ 64 := by
          have : 2 ^ (j + 1) ≤ 2 ^ 6 := Nat.pow_le_pow_right (by omega) (by omega)
          rw [Nat.pow_succ, ← hqe.out] at this
          omega
        go_wp2_with fail
        go_roundw
        case rel => exact ⟨j + 1, q * 2, by go_num, by omega, by omega, by omega, hid (by rw [Nat.pow_succ, ← hqe.out]), hbw⟩
        case measure => simp [intOf]; omega
      · have l1 : decide ((q : Int) < (rs.length : Int)) = false := decide_eq_false (by omega)
        have l2 : ¬ (q : Int) < (rs.length : Int) := by omega
        have hjh : j = h := pow_one_of (n := n) (by rw [← hqe.out]; omega) (by
          have : 2 ^ j ≤ 2 ^ h := Nat.pow_le_pow_right (by omega) hj
          omega) nlv lvn
        subst hjh
        have C := hid (LK.out wr hbw.out j hh (by rw [← hqe.out]; omega))
        rw [HV.out, ← hqe.out, ht] at C
        have C' : Hid (Calls Try.prog 49 #[.pointer (some ⟨R, 0, none⟩), .int .i64 0, .int .i64 0, .int .i64 (q : Int)] wr fun r w' => r = .returned (.int .i64 (looksN N at_ j : Int)) ∧ Below wr.heap.size wr w') := C
        clear C
        go_wp2_with fail
        refine C'.out.mono ?_
        rintro e2 w2 ⟨rfl, hb2⟩
        have hbw2 := hid (below2 hbw.out hb2)
        clear C' hb2
        go_wp2
        go_ret
        exact ⟨rfl, hbw2.out⟩
  · have g1 : decide (at_ < 0) = false := decide_eq_false hneg
    have ht : (at_.toNat : Int) = at_ := by omega
    go_enter Try.func29, Try.ntmps29
    go_wp2_with fail
    go_loopw [5] (fun p5 wr => ∃ j q : Nat, p5 = .int .i64 (q : Int) ∧ j ≤ h ∧ q ≤ 64 ∧ 1 ≤ q ∧ Hid (q = 2 ^ j) ∧ Hid (Below w.heap.size w wr)) (fun p5 _ => 128 - (intOf p5).toNat)
    case atStart => exact ⟨0, 1, rfl, by omega, by omega, by omega, hid rfl, hid (Below.refl _ _)⟩
    case round =>
      obtain ⟨j, q, rfl, hj, hq, hq1, hqe, hbw⟩ := hrel
      have d0 := (HR.out.later hbw.out).c0
      by_cases hlt : q < rs.length
      · have l1 : decide ((q : Int) < (rs.length : Int)) = true := decide_eq_true (by omega)
        have l2 : (q : Int) < (rs.length : Int) := by omega
        have hj1 : j < h := by
          rcases Nat.lt_or_ge j h with hl | hge
          · exact hl
          · have : 2 ^ h ≤ 2 ^ j := Nat.pow_le_pow_right (by omega) hge
            rw [← hqe.out] at this
            omega
        have hq2 : q * 2 ≤ 64 := by
          have : 2 ^ (j + 1) ≤ 2 ^ 6 := Nat.pow_le_pow_right (by omega) (by omega)
          rw [Nat.pow_succ, ← hqe.out] at this
          omega
        go_wp2_with fail
        go_roundw
        case rel => exact ⟨j + 1, q * 2, by go_num, by omega, by omega, by omega, hid (by rw [Nat.pow_succ, ← hqe.out]), hbw⟩
        case measure => simp [intOf]; omega
      · have l1 : decide ((q : Int) < (rs.length : Int)) = false := decide_eq_false (by omega)
        have l2 : ¬ (q : Int) < (rs.length : Int) := by omega
        have hjh : j = h := pow_one_of (n := n) (by rw [← hqe.out]; omega) (by
          have : 2 ^ j ≤ 2 ^ h := Nat.pow_le_pow_right (by omega) hj
          omega) nlv lvn
        subst hjh
        have C := hid (LK.out wr hbw.out j hh (by rw [← hqe.out]; omega))
        rw [HV.out, ← hqe.out, ht] at C
        have C' : Hid (Calls Try.prog 49 #[.pointer (some ⟨R, 0, none⟩), .int .i64 at_, .int .i64 0, .int .i64 (q : Int)] wr fun r w' => r = .returned (.int .i64 (looksN N at_ j : Int)) ∧ Below wr.heap.size wr w') := C
        clear C
        go_wp2_with fail
        refine C'.out.mono ?_
        rintro e2 w2 ⟨rfl, hb2⟩
        have hbw2 := hid (below2 hbw.out hb2)
        clear C' hb2
        go_wp2
        go_ret
        exact ⟨rfl, hbw2.out⟩
end Go.Proofs.Ytaomhahmpbfjhaa

namespace Go.Proofs.Ytaomhahmpbfjhaa
open Go.RowKit
set_option linter.unusedVariables false

set_option maxHeartbeats 3200000 in
set_option maxRecDepth 1000000 in
theorem act_3 {D n i : Nat} {va vb vm : Value} {Q : Pool} {T : List Tq} {M : List Mk} {cs : List Comp} {w w0 : World} {x : Ac} {xs : List Sh} (hA : All (deskL D n va vb vm Q T M ++ cs) w) (hF : DF Q n T M i) (hin : inC w0 ∈ cs) (hx : AcIn w0 x xs) (hi : i ≤ 1099511627000) (hm : amN x.kind 7 = 3) : Calls Try.prog 9 #[.pointer (some ⟨D, 0, none⟩), .agg x.cells.toArray] w fun e w' => e = .returned (.bool true) ∧ DeskI D n T.length (i + 64) cs w' := by
  obtain ⟨kd, bk, nu, at_, d1, d2, d3, l1, l2, l3, data⟩ := x
  have hk : amN bk T.length < T.length := amN_lt _ hF.one
  obtain ⟨k, hk0⟩ : ∃ k, amN bk T.length = k := ⟨_, rfl⟩
  rw [hk0] at hk
  obtain ⟨t, hT⟩ : ∃ t, Hid (T[k]? = some t) := ⟨_, hid (List.getElem?_eq_getElem hk)⟩
  have hok := hid (hF.ok t (List.mem_of_getElem? hT.out))
  obtain ⟨K, hK⟩ : ∃ K, Hid (K = w.heap.size) := ⟨_, hid rfl⟩
  have A1 : Hid (All (deskL D n va vb vm Q T M ++ (blkC K [.int .i64 kd, .int .i64 bk, .int .i64 nu, .int .i64 at_, .slice d1 d2 d3, .slice l1 l2 l3] 39 :: cs)) (w.alloc (.cells #[.int .i64 kd, .int .i64 bk, .int .i64 nu, .int .i64 at_, .slice d1 d2 d3, .slice l1 l2 l3] 39))) := hid (by
    have h1 := hA.addBlk [.int .i64 kd, .int .i64 bk, .int .i64 nu, .int .i64 at_, .slice d1 d2 d3, .slice l1 l2 l3] 39
    rw [← hK.out] at h1
    exact h1.perm List.perm_middle.symm)
  obtain ⟨ra, ca, rb, cb, rfl, rfl, RD⟩ := desk_reads hT.out A1.out
  obtain ⟨c0, c1, pa, pb⟩ := RD
  simp only at hm
  have HAM : Hid (∀ W : World, Calls Try.prog 25 #[.int .i64 kd, .int .i64 7] W fun e w' => e = .returned (.int .i64 3) ∧ w' = W) := hid (fun W => by
    refine (among_is kd 7 (by decide) (by decide)).mono ?_
    rintro e w' ⟨rfl, rfl⟩
    rw [hm]
    exact ⟨rfl, rfl⟩)
  have HAK : Hid (∀ W : World, Calls Try.prog 25 #[.int .i64 bk, .int .i64 (T.length : Int)] W fun e w' => e = .returned (.int .i64 (k : Int)) ∧ w' = W) := hid (fun W => by
    refine (among_is bk T.length hF.one (by have := hF.four; omega)).mono ?_
    rintro e w' ⟨rfl, rfl⟩
    rw [hk0]
    exact ⟨rfl, rfl⟩)
  have HF := hid hF
  have HX := hid hx
  have HIN := hid hin
  have hN4 := hF.four
  have HKL := hid hk
  have j1 : (k : Int) < (T.length : Int) := by omega
  generalize hN : T.length = N at *
  have HN := hid hN
  clear hA hF hm hN hk0 hx hin hk
  show Calls Try.prog 9 #[.pointer (some ⟨D, 0, none⟩), .agg #[.int .i64 kd, .int .i64 bk, .int .i64 nu, .int .i64 at_, .slice d1 d2 d3, .slice l1 l2 l3]] w _
  go_enter Try.func9, Try.ntmps9
  go_upto_region 1 with fail
  rw [← hK.out]
  clear hK
  have ZZ : Hid (∀ (Y : List Comp) W, All (Y ++ (blkC K [.int .i64 kd, .int .i64 bk, .int .i64 nu, .int .i64 at_, .slice d1 d2 d3, .slice l1 l2 l3] 39 :: cs)) W → W.cell? ⟨K, 0, none⟩ = some (.int .i64 kd) ∧ W.cell? ⟨K, 1, none⟩ = some (.int .i64 bk) ∧ W.cell? ⟨K, 2, none⟩ = some (.int .i64 nu) ∧ W.cell? ⟨K, 3, none⟩ = some (.int .i64 at_) ∧ W.cell? ⟨K, 4, none⟩ = some (.slice d1 d2 d3) ∧ W.cell? ⟨K, 5, none⟩ = some (.slice l1 l2 l3)) := hid (fun Y W hW => by
    have e : W.heap[K]? = some (.cells [.int .i64 kd, .int .i64 bk, .int .i64 nu, .int .i64 at_, .slice d1 d2 d3, .slice l1 l2 l3].toArray 39 (0, 0)) := hW.blk (by simp)
    refine ⟨?_, ?_, ?_, ?_, ?_, ?_⟩ <;> (rw [cell_at e]; rfl))
  generalize (w.alloc (.cells #[.int .i64 kd, .int .i64 bk, .int .i64 nu, .int .i64 at_, .slice d1 d2 d3, .slice l1 l2 l3] 39)) = w1 at *
  obtain ⟨z0, z1, z2, z3, z4, z5⟩ := ZZ.out _ _ A1.out
  go_region_held3 (fun W => W.cell? ⟨K, 1, none⟩ = some (.int .i64 bk) ∧ W.cell? ⟨D, 0, none⟩ = some (.slice (some ⟨ra, 0, none⟩) N ca)) (go_keep)
    ((go_at_call 25; refine (HAK.out _).mono ?_; rintro e w3 ⟨rfl, hw3⟩; have A3 := hid A1.out.drew; rw [← hw3] at A3; obtain ⟨_, s1, _⟩ := ZZ.out _ _ A3.out; have s2 := (desk_rd hT.out A3.out).c0; clear hw3))
  clear HAK A1 c0 c1 pa pb z0 z1 z2 z3 z4 z5 s1 s2
  obtain ⟨z0, z1, z2, z3, z4, z5⟩ := ZZ.out _ _ A3.out
  go_wp2_with fail
  refine (HAM.out _).mono ?_
  rintro e w5 ⟨rfl, hw5⟩
  have A4 := hid A3.out
  rw [← hw5] at A4
  clear hw5 A3 z0 z1 z2 z3 z4 z5 HAM
  have A5 := hid (desk_out hT.out A4.out)
  clear A4
  have SS : Hid (∀ (X : List Comp) W, All (X ++ (hdL D (.slice (some ⟨ra, 0, none⟩) N ca) (.slice (some ⟨rb, 0, none⟩) N cb) vm (pA T) (pB T) M ++ (OT n T k ++ (blkC K [.int .i64 kd, .int .i64 bk, .int .i64 nu, .int .i64 at_, .slice d1 d2 d3, .slice l1 l2 l3] 39 :: cs)))) W → W.cell? ⟨D, 0, none⟩ = some (.slice (some ⟨ra, 0, none⟩) N ca) ∧ W.cell? ⟨D, 1, none⟩ = some (.slice (some ⟨rb, 0, none⟩) N cb) ∧ W.cell? ⟨ra, k, none⟩ = some (.pointer (some ⟨t.g, 0, none⟩)) ∧ W.cell? ⟨rb, k, none⟩ = some (.pointer (some ⟨t.R, 0, none⟩)) ∧ W.cell? ⟨K, 2, none⟩ = some (.int .i64 nu) ∧ W.cell? ⟨K, 3, none⟩ = some (.int .i64 at_) ∧ W.cell? ⟨K, 4, none⟩ = some (.slice d1 d2 d3)) := hid (fun X W hW => by
    obtain ⟨a1, a2, a3, a4⟩ := hd_reads hT.out hW
    obtain ⟨_, _, b1, b2, b3, _⟩ := ZZ.out (X ++ (hdL D (.slice (some ⟨ra, 0, none⟩) N ca) (.slice (some ⟨rb, 0, none⟩) N cb) vm (pA T) (pB T) M ++ OT n T k)) W (by simpa [List.append_assoc] using hW)
    exact ⟨a1, a2, a3, a4, b1, b2, b3⟩)
  clear ZZ
  obtain ⟨h, hh, hlv⟩ := hok.out.bk.pow
  have HLV := hid hlv
  have HB := hid (by have := hok.out.bk; rw [hlv] at this; exact this)
  have A5 := hid (by have := A5.out; rw [hlv] at this; exact this)
  clear hlv
  generalize hlk : looksN t.N at_ h = lk0 at *
  have HLK := hid hlk
  clear hlk
  have q0 := hid (SS.out (poolC Q :: blkC t.g (bookL n (2 ^ h) t.ps) 70 :: refL t.R t.v t.rs) _ A5.out)
  obtain ⟨c0, c1, pa, pb, z2, z3, z4⟩ := q0.out
  go_wp2_with fail
  go_region_held3 (fun W => W.cell? ⟨D, 0, none⟩ = some (.slice (some ⟨ra, 0, none⟩) N ca) ∧ W.cell? ⟨D, 1, none⟩ = some (.slice (some ⟨rb, 0, none⟩) N cb) ∧ W.cell? ⟨ra, k, none⟩ = some (.pointer (some ⟨t.g, 0, none⟩)) ∧ W.cell? ⟨rb, k, none⟩ = some (.pointer (some ⟨t.R, 0, none⟩)) ∧ W.cell? ⟨K, 2, none⟩ = some (.int .i64 nu) ∧ W.cell? ⟨K, 3, none⟩ = some (.int .i64 at_) ∧ W.cell? ⟨K, 4, none⟩ = some (.slice d1 d2 d3)) (first | exact q0.out | exact q1.out | exact q2.out)
    (first
      | (go_at_call 23; refine (Looks_all A5.out.drew HB.out hh).mono ?_; rintro e w6 ⟨rfl, A6⟩; have A6 := hid A6; have q1 := hid (SS.out (poolC Q :: blkC t.g (bookL n (2 ^ h) t.ps) 70 :: refL t.R t.v t.rs) _ A6.out))
      | (go_at_call 29; refine (rLooks_all A6.out.refF hok.out.rs HB.out hh HX.out.at64).mono ?_; rintro e w7 ⟨rfl, hb⟩; have A7 := hid (A6.out.later hb); have q2 := hid (SS.out (poolC Q :: blkC t.g (bookL n (2 ^ h) t.ps) 70 :: refL t.R t.v t.rs) _ A7.out); clear hb))
  clear c0 c1 pa pb z2 z3 z4 q0 q1 q2
  go_wp2
  go_ret
  exact ⟨rfl, HN.out ▸ (DeskI.same hT.out HF.out (by have := HF.out.few; omega) HF.out.short (by rw [HLV.out]; exact A7.out)).drop⟩
end Go.Proofs.Ytaomhahmpbfjhaa

namespace Go.Proofs.Ytaomhahmpbfjhaa
open Go.RowKit
set_option linter.unusedVariables false

set_option maxRecDepth 1000000 in
set_option maxHeartbeats 3200000 in
/-- The document's Apply, where the list is refused. -/
theorem rApply_bad {w : World} {R n : Nat} {ro ao : Option Addr} {rc c : Nat} {rs : List Xs} {xs : List Sh} (hA : RAt w R ro rc rs) (hn : rs.length = n) (hn64 : n ≤ 64) (hR : ShR w ao xs) (hl : xs.length ≤ 1099511627776) (hE : chkE n (-1) xs ≠ 0) :
    Calls Try.prog 51 #[.pointer (some ⟨R, 0, none⟩), .slice ao xs.length c] w fun e w' => e = .returned (.int .i64 (chkE n (-1) xs)) ∧ Below w.heap.size w w' := by
  have HR := hid hR
  have HA := hid hA
  have HN := hid hn
  have HE := hid hE
  have hrl : rs.length ≤ 64 := by omega
  clear hR hA hn hE
  go_enter Try.func51, Try.ntmps51
  go_wp2_with fail
  go_loopw [11] (fun p11 wr => ∃ (i : Nat) (L : Int), i ≤ xs.length ∧ p11 = .int .i64 (i : Int) ∧ Hid (chkE n (-1) xs = chkE n L (xs.drop i)) ∧ Hid ((i = 0 ∧ L = -1) ∨ ∃ i' y, i = i' + 1 ∧ xs[i']? = some y ∧ L = y.num) ∧ Hid (Below w.heap.size w wr)) (fun p11 _ => xs.length - (intOf p11).toNat)
  case atStart => exact ⟨0, -1, by omega, rfl, hid (by simp), hid (.inl ⟨rfl, rfl⟩), hid (Below.refl _ _)⟩
  case round =>
    obtain ⟨i, L, hi, rfl, hE, hP, hbw⟩ := hrel
    by_cases hlt : i < xs.length
    · have l1 : decide ((i : Int) < (xs.length : Int)) = true := decide_eq_true (by omega)
      have l2 : (i : Int) < (xs.length : Int) := by omega
      obtain ⟨x, hx⟩ : ∃ x, xs[i]? = some x := ⟨_, List.getElem?_eq_getElem hlt⟩
      have hdrop : xs.drop i = x :: xs.drop (i + 1) := by
        rw [List.drop_eq_getElem_cons hlt]
        have := (List.getElem?_eq_some_iff.1 hx).2
        rw [this]
      obtain ⟨gr, off, rfl, hgr, c0, c1, c2⟩ := (HR.out.later hbw.out).at hx
      have hE2 := hE.out
      rw [hdrop, chkE] at hE2
      have NB : Hid (Below w.heap.size w (wr.alloc (.cells #[.int .i64 x.num, .int .i64 x.at_, .slice x.ao x.len x.cap] 51))) := hid (belowT hbw.out (ba wr _))
      have r0 := (HA.out.later NB.out).c0
      have hRl := World.block_lt_of_cell? _ _ r0
      obtain ⟨K, hK⟩ : ∃ K, Hid (K = wr.heap.size) := ⟨_, hid rfl⟩
      have z0 : (wr.alloc (.cells #[.int .i64 x.num, .int .i64 x.at_, .slice x.ao x.len x.cap] 51)).cell? ⟨K, 0, none⟩ = some (.int .i64 x.num) := by rw [hK.out, cell_at (heap_alloc_new wr _)]; rfl
      have z1 : (wr.alloc (.cells #[.int .i64 x.num, .int .i64 x.at_, .slice x.ao x.len x.cap] 51)).cell? ⟨K, 1, none⟩ = some (.int .i64 x.at_) := by rw [hK.out, cell_at (heap_alloc_new wr _)]; rfl
      have z2 : (wr.alloc (.cells #[.int .i64 x.num, .int .i64 x.at_, .slice x.ao x.len x.cap] 51)).cell? ⟨K, 2, none⟩ = some (.slice x.ao x.len x.cap) := by rw [hK.out, cell_at (heap_alloc_new wr _)]; rfl
      have NX : Hid ((i + 1 = 0 ∧ x.num = -1) ∨ ∃ i' y, i + 1 = i' + 1 ∧ xs[i']? = some y ∧ x.num = y.num) := hid (.inr ⟨i, x, rfl, hx, rfl⟩)
      have hnn := HN.out
      rw [← hnn] at hE2
      have hE3 := hid hE2
      have HP2 : Hid ((i = 0 ∧ L = -1) ∨ (1 ≤ i ∧ (wr.alloc (.cells #[.int .i64 x.num, .int .i64 x.at_, .slice x.ao x.len x.cap] 51)).cell? ⟨gr, off + (i - 1) * 3, none⟩ = some (.int .i64 L))) := hid (by
        rcases hP.out with h | ⟨i', y, e1, e2, e3⟩
        · exact .inl h
        · obtain ⟨gr2, off2, e4, _, d0, _, _⟩ := (HR.out.later NB.out).at e2
          simp only [Option.some.injEq, Addr.mk.injEq, and_true] at e4
          obtain ⟨rfl, rfl⟩ := e4
          exact .inr ⟨by omega, by rw [e1, e3]; exact d0⟩)
      clear hE hE2 hdrop hx hP
      go_upto_region 4 with fail
      rw [← hK.out]
      clear hK c0 c1 c2
      generalize (wr.alloc (.cells #[.int .i64 x.num, .int .i64 x.at_, .slice x.ao x.len x.cap] 51)) = w4 at *
      by_cases b1 : 0 ≤ x.num ∧ x.num < (rs.length : Nat)
      case neg =>
        have hv : Hid (chkE n (-1) xs = 61) := hid (by
          have h1 : chk1 rs.length L x = 61 := by unfold chk1; rw [if_pos b1]
          have := hE3.out
          rw [h1] at this
          rw [← HN.out]
          exact this)
        by_cases bn : x.num < 0
        · have m1 : decide (x.num < 0) = true := decide_eq_true bn
          go_quiet (fail)
          go_wp2
          go_ret
          exact ⟨by rw [hv.out]; rfl, belowT NB.out (bdN w4 _)⟩
        · have m1 : decide (x.num < 0) = false := decide_eq_false bn
          have m2 : (rs.length : Int) ≤ x.num := by omega
          have m3 : decide ((rs.length : Int) ≤ x.num) = true := decide_eq_true m2
          go_quiet (fail)
          go_wp2
          go_ret
          exact ⟨by rw [hv.out]; rfl, belowT NB.out (bdN w4 _)⟩
      case pos =>
        have m0 : ¬ x.num < 0 := by omega
        have m1 : decide (x.num < 0) = false := decide_eq_false m0
        have m2 : ¬ (rs.length : Int) ≤ x.num := by omega
        have m3 : decide ((rs.length : Int) ≤ x.num) = false := decide_eq_false m2
        go_quiet (fail)
        go_upto_region 6 with fail
        rcases HP2.out with ⟨hi0, hL⟩ | ⟨hi1, p0⟩
        · have q1 : ¬ (0 : Int) < (i : Int) := by omega
          have q2 : decide ((0 : Int) < (i : Int)) = false := decide_eq_false q1
          have q6 : ¬ 0 < i := by omega
          have q7 : decide (0 < i) = false := decide_eq_false q6
          have b2 : ¬ x.num ≤ L := by omega
          clear hi0
          by_cases b3 : 1 ≤ x.at_ ∧ x.at_ ≤ 1099511627776
          · have o1 : ¬ x.at_ < 1 := by omega
            have o2 : decide (x.at_ < 1) = false := decide_eq_false o1
            have o3 : ¬ (1099511627776 : Int) < x.at_ := by omega
            have o4 : decide ((1099511627776 : Int) < x.at_) = false := decide_eq_false o3
            by_cases b4 : 2304 < x.len
            · have o5 : (2304 : Int) < (x.len : Int) := by omega
              have o6 : decide ((2304 : Int) < (x.len : Int)) = true := decide_eq_true o5
              have hv : Hid (chkE n (-1) xs = 63) := hid (by
                have h1 : chk1 rs.length L x = 63 := by unfold chk1; rw [if_neg (by simpa using b1), if_neg b2, if_neg (by simpa using b3), if_pos b4]
                have := hE3.out
                rw [h1] at this
                rw [← HN.out]
                exact this)
              go_quiet (fail)
              go_wp2
              go_ret
              exact ⟨by rw [hv.out]; rfl, belowT NB.out (bdN w4 _)⟩
            · have o5 : ¬ (2304 : Int) < (x.len : Int) := by omega
              have o6 : decide ((2304 : Int) < (x.len : Int)) = false := decide_eq_false o5
              have hv : Hid (chkE n (-1) xs = chkE n x.num (xs.drop (i + 1))) := hid (by
                have h1 : chk1 rs.length L x = 0 := by unfold chk1; rw [if_neg (by simpa using b1), if_neg b2, if_neg (by simpa using b3), if_neg b4]
                have := hE3.out
                rw [h1, if_pos rfl] at this
                rw [← HN.out]
                exact this)
              go_quiet (fail)
              go_wp2_with fail
              go_roundw
              case rel => exact ⟨i + 1, x.num, by omega, by go_num, hv, NX, hid (belowT NB.out (bdN w4 _))⟩
              case measure => simp [intOf]; omega
          · have hv : Hid (chkE n (-1) xs = 62) := hid (by
              have h1 : chk1 rs.length L x = 62 := by unfold chk1; rw [if_neg (by simpa using b1), if_neg b2, if_pos b3]
              have := hE3.out
              rw [h1] at this
              rw [← HN.out]
              exact this)
            by_cases o1 : x.at_ < 1
            · have o2 : decide (x.at_ < 1) = true := decide_eq_true o1
              go_quiet (fail)
              go_wp2
              go_ret
              exact ⟨by rw [hv.out]; rfl, belowT NB.out (bdN w4 _)⟩
            · have o2 : decide (x.at_ < 1) = false := decide_eq_false o1
              have o3 : (1099511627776 : Int) < x.at_ := by omega
              have o4 : decide ((1099511627776 : Int) < x.at_) = true := decide_eq_true o3
              go_quiet (fail)
              go_wp2
              go_ret
              exact ⟨by rw [hv.out]; rfl, belowT NB.out (bdN w4 _)⟩
        · have q1 : (0 : Int) < (i : Int) := by omega
          have q2 : decide ((0 : Int) < (i : Int)) = true := decide_eq_true q1
          have q6 : 0 < i := by omega
          have q7 : decide (0 < i) = true := decide_eq_true q6
          obtain ⟨j, hj⟩ : ∃ j, i = j + 1 := ⟨i - 1, by omega⟩
          rw [hj, Nat.add_sub_cancel] at p0
          have q3 : (i : Int) - 1 = (j : Int) := by omega
          have q4 : (j : Int) < (xs.length : Int) := by omega
          by_cases b2 : x.num ≤ L
          · have q5 : decide (x.num ≤ L) = true := decide_eq_true b2
            have hv : Hid (chkE n (-1) xs = 64) := hid (by
              have h1 : chk1 rs.length L x = 64 := by unfold chk1; rw [if_neg (by simpa using b1), if_pos b2]
              have := hE3.out
              rw [h1] at this
              rw [← HN.out]
              exact this)
            go_quiet (fail)
            go_wp2
            go_ret
            exact ⟨by rw [hv.out]; rfl, belowT NB.out (bdN w4 _)⟩
          · have q5 : decide (x.num ≤ L) = false := decide_eq_false b2
            by_cases b3 : 1 ≤ x.at_ ∧ x.at_ ≤ 1099511627776
            · have o1 : ¬ x.at_ < 1 := by omega
              have o2 : decide (x.at_ < 1) = false := decide_eq_false o1
              have o3 : ¬ (1099511627776 : Int) < x.at_ := by omega
              have o4 : decide ((1099511627776 : Int) < x.at_) = false := decide_eq_false o3
              by_cases b4 : 2304 < x.len
              · have o5 : (2304 : Int) < (x.len : Int) := by omega
                have o6 : decide ((2304 : Int) < (x.len : Int)) = true := decide_eq_true o5
                have hv : Hid (chkE n (-1) xs = 63) := hid (by
                  have h1 : chk1 rs.length L x = 63 := by unfold chk1; rw [if_neg (by simpa using b1), if_neg b2, if_neg (by simpa using b3), if_pos b4]
                  have := hE3.out
                  rw [h1] at this
                  rw [← HN.out]
                  exact this)
                go_quiet (fail)
                go_wp2
                go_ret
                exact ⟨by rw [hv.out]; rfl, belowT NB.out (bdN w4 _)⟩
              · have o5 : ¬ (2304 : Int) < (x.len : Int) := by omega
                have o6 : decide ((2304 : Int) < (x.len : Int)) = false := decide_eq_false o5
                have hv : Hid (chkE n (-1) xs = chkE n x.num (xs.drop (i + 1))) := hid (by
                  have h1 : chk1 rs.length L x = 0 := by unfold chk1; rw [if_neg (by simpa using b1), if_neg b2, if_neg (by simpa using b3), if_neg b4]
                  have := hE3.out
                  rw [h1, if_pos rfl] at this
                  rw [← HN.out]
                  exact this)
                go_quiet (fail)
                go_wp2_with fail
                go_roundw
                case rel => exact ⟨i + 1, x.num, by omega, by go_num, hv, NX, hid (belowT NB.out (bdN w4 _))⟩
                case measure => simp [intOf]; omega
            · have hv : Hid (chkE n (-1) xs = 62) := hid (by
                have h1 : chk1 rs.length L x = 62 := by unfold chk1; rw [if_neg (by simpa using b1), if_neg b2, if_pos b3]
                have := hE3.out
                rw [h1] at this
                rw [← HN.out]
                exact this)
              by_cases o1 : x.at_ < 1
              · have o2 : decide (x.at_ < 1) = true := decide_eq_true o1
                go_quiet (fail)
                go_wp2
                go_ret
                exact ⟨by rw [hv.out]; rfl, belowT NB.out (bdN w4 _)⟩
              · have o2 : decide (x.at_ < 1) = false := decide_eq_false o1
                have o3 : (1099511627776 : Int) < x.at_ := by omega
                have o4 : decide ((1099511627776 : Int) < x.at_) = true := decide_eq_true o3
                go_quiet (fail)
                go_wp2
                go_ret
                exact ⟨by rw [hv.out]; rfl, belowT NB.out (bdN w4 _)⟩
    · have hv : Hid (chkE n (-1) xs = 0) := hid (by rw [hE.out, List.drop_of_length_le (by omega)]; rfl)
      exact absurd hv.out HE.out
end Go.Proofs.Ytaomhahmpbfjhaa

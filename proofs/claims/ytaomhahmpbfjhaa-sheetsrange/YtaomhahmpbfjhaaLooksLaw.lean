import Derived.Test.YtaomhahmpbfjhaaCount
import Derived.Test.YtaomhahmpbfjhaaActs
import Derived.Lib.SmallJoins
namespace Go.Proofs.Ytaomhahmpbfjhaa
open Go.RowKit
set_option linter.unusedVariables false

theorem All.pool0 {cs : List Comp} {w : World} (h : All cs w) : All (poolC [] :: cs) w :=
  ⟨⟨poolC_good _, (fun x hx => nomatch hx : ∀ x ∈ ([] : Pool), w.heap[x.1]? = some x.2 ∧ x.2.isCells = true), (fun k hk => nomatch hk : ∀ k ∈ ([] : List Nat), k < w.heap.size)⟩, fun d hd => (fun k hk => nomatch hk : ∀ k ∈ ([] : List Nat), k ∉ d.fp), h⟩

theorem noS_last (n : Nat) : lastS noS n = 0 := by
  have : mx noS 0 n ≤ 0 := mx_of_le (fun i _ => by simp [noS])
  unfold lastS
  omega

theorem put_first {n : Nat} (h : 1 ≤ n) : putE n noS 0 1 [120] = 0 := by
  unfold putE
  rw [noS_last, if_neg (by omega), if_neg (by omega), if_neg (by simp)]

theorem All.rest {xs ys : List Comp} {w : World} (h : All (xs ++ ys) w) : All ys w := by
  induction xs with
  | nil => exact h
  | cons x xs ih => exact ih h.2.2

/-- given, all of it. -/
theorem given_whole {w : World} {g n h : Nat} {ps : List Nat} {N : Nodes} {P : Pool} {cs : List Comp} {S : Sheets} {at_ : Int} (hA : All (poolC P :: blkC g (bookL n (2 ^ h) ps) 70 :: cs) w) (hB : Bk P n (2 ^ h) ps N S) (hh : h ≤ 6) :
    Calls Try.prog 20 #[.pointer (some ⟨g, 0, none⟩), .int .i64 at_, .int .i64 (-1)] w fun e w' => ∃ ao c ys, e = .returned (.slice ao ys.length c) ∧ ys.map Xs.key = sel N (2 ^ h) at_.toNat (vis N at_.toNat h 1) ∧ All (rowC 51 3 (.slice ao ys.length c) ys.length (flatX ys) :: (ys.map datC ++ poolC P :: blkC g (bookL n (2 ^ h) ps) 70 :: cs)) w' := by
  refine (given_all hA hB hh (by omega)).mono ?_
  rintro e w' ⟨v, ys, rfl, hk, hA'⟩
  obtain ⟨ao, c, e⟩ := owns_form (show w'.ownsRow 0 51 3 v ys.length (flatX ys) from hA'.1.2.1)
  subst e
  refine ⟨ao, c, ys, rfl, ?_, hA'⟩
  rcases hk with hk | ⟨_, hk⟩
  · exact hk
  · omega

set_option maxRecDepth 100000 in
set_option maxHeartbeats 4000000 in
theorem looks_walk {w : World} {n : Int} {v : Value} {xs : List Ac} {at_ : Int} (hx : ActsAt w v xs) (hlen : xs.length ≤ maxLen) : Calls Try.prog 6 #[.int .i64 n, v, .int .i64 at_] w fun e w' => e = .returned (.bool true) ∧ Below w.heap.size w w' := by
  obtain ⟨ao, c, rfl⟩ := hx.form
  by_cases hb : n < 1 ∨ n > 64
  · have H := hid (New_bad (w := w) hb)
    by_cases h1 : n < 1
    · have d1 : decide (n < 1) = true := by simpa using h1
      generalize xs.length = xl at *
      clear hx hb
      go_enter Try.func6, Try.ntmps6
      go_wp2_with (go_at_call 7; refine H.out.mono ?_; rintro e w' ⟨rfl, rfl⟩)
      go_ret
      exact ⟨rfl, Below.refl _ _⟩
    · have d1 : decide (n < 1) = false := by simpa using h1
      have d2 : n > 64 := by omega
      generalize xs.length = xl at *
      clear hx hb
      go_enter Try.func6, Try.ntmps6
      go_wp2_with (go_at_call 7; refine H.out.mono ?_; rintro e w' ⟨rfl, rfl⟩)
      go_ret
      exact ⟨rfl, Below.refl _ _⟩
  obtain ⟨m, rfl⟩ : ∃ m : Nat, n = m := ⟨n.toNat, by omega⟩
  have hm1 : 1 ≤ m := by omega
  have hm2 : m ≤ 64 := by omega
  have H := hid (New_all (All.came w).pool0 hm1 hm2)
  have HX := hid hx
  have HL := hid hlen
  have HM := hid (show 1 ≤ m ∧ m ≤ 64 from ⟨hm1, hm2⟩)
  obtain ⟨xl, hxl⟩ : ∃ xl, Hid (xl = xs.length) := ⟨_, hid rfl⟩
  rw [← hxl.out]
  clear hx hlen hb hm1 hm2
  go_enter Try.func6, Try.ntmps6
  go_wp2_with (go_at_call 7; refine H.out.mono ?_; rintro e w1 ⟨g, rfl, Q, lv, ps, N, A1, B1, _⟩)
  obtain ⟨h, hh, rfl⟩ := B1.pow
  have l1 : looksN N 0 h = 1 := vis_one (by rw [B1.last, noS_last]; simp)
  have L1 := hid (Looks_all (at_ := 0) A1 B1 hh)
  rw [l1] at L1
  have P1 : Hid (∀ w2, All (poolC Q :: blkC g (bookL m (2 ^ h) ps) 70 :: [inC w]) w2 → Calls Try.prog 12 #[.pointer (some ⟨g, 0, none⟩), .int .i64 0, .int .i64 1, .slice (some ⟨w2.heap.size, 0, none⟩) 1 1] (w2.alloc (.cells #[.int .u8 120] 5 (1, 2))) fun e w' => e = .returned (.int .i64 0) ∧ ∃ S, Has [] g m [inC w] S w') := hid (fun w2 A2 => by
    have hr : Reads (w2.alloc (.cells #[.int .u8 120] 5 (1, 2))) (.slice (some ⟨w2.heap.size, 0, none⟩) 1 1) [120] := by
      refine ⟨_, 1, rfl, by simp, Or.inr ⟨w2.heap.size, 0, rfl, by simp, fun j u hu => ?_⟩⟩
      rw [cell_at (heap_alloc_new w2 _), Nat.zero_add]
      simpa [cellsB] using hu
    refine (Put_all (num := 0) (at_ := 1) (A2.alloc _) B1 hr).mono ?_
    rintro e w' ⟨rfl, Q', lv', ps', N', a1, a2, a3⟩
    exact ⟨by rw [put_first HM.out.1], _, Q', lv', ps', N', a1, a2, fun x hx => by cases hx⟩)
  clear B1 A1 H l1
  refine L1.out.mono ?_
  rintro e w2 ⟨rfl, A2⟩
  have P1 := hid (P1.out w2 A2)
  have kc : (convert 36 36 (.slice (some ⟨w2.heap.size, 0, none⟩) 1 1)).run Try.prog (w2.alloc (.cells #[.int .u8 120] 5)) = .ok (.slice (some ⟨w2.heap.size, 0, none⟩) 1 1) (w2.alloc (.cells #[.int .u8 120] 5 (1, 2))) := Lib.run_convert_bytes_const (P := Try.prog) w2 36 5 #[.int .u8 120] 1 1 Try.underlying36 Try.underlying5
  clear A2 L1
  go_wp2_with (go_at_call 12; refine P1.out.mono ?_; rintro e w3 ⟨rfl, h3⟩)
  have h3 := hid h3
  clear P1 kc
  go_loopw [10, 42, 43, 44, 45, 46, 47, 48, 49, 50, 51, 52, 53, 54] (fun p10 p42 p43 p44 p45 p46 p47 p48 p49 p50 p51 p52 p53 p54 wr => ∃ i : Nat, p42 = .int .i64 i ∧ i ≤ xl ∧ Hid (∃ S, Has [] g m [inC w] S wr))
    (fun p10 p42 p43 p44 p45 p46 p47 p48 p49 p50 p51 p52 p53 p54 _ => match p42 with | .int _ i => (xl - i).toNat | _ => 0)
  case atStart => exact ⟨0, rfl, by omega, h3⟩
  case round =>
    obtain ⟨i, rfl, hi, hS⟩ := hrel
    by_cases hc : (i : Int) < (xl : Int)
    · obtain ⟨S, Q1, lv1, ps1, N1, A1, B1, _⟩ := hS.out
      have hbel : Below w.heap.size w wr := A1.into (by simp)
      have hii : i < xs.length := by rw [← hxl.out]; omega
      obtain ⟨x, hxi⟩ : ∃ x, xs[i]? = some x := ⟨_, List.getElem?_eq_getElem hii⟩
      obtain ⟨b, o, rfl, hbl, hcell, hrd⟩ := HX.out.at hbel hxi
      have hbw : b < wr.heap.size := Nat.lt_of_lt_of_le hbl hbel.size
      have c0 := hcell 0 _ rfl
      have c1 := hcell 1 _ rfl
      have c2 := hcell 2 _ rfl
      have c3 := hcell 3 _ rfl
      have c4 := hcell 4 _ rfl
      have c5 := hcell 5 _ rfl
      simp only [Nat.add_zero] at c0
      have PP := hid ((Put_all (num := x.num) (at_ := x.at_) (A1.alloc (.cells #[.int .i64 x.kind, .int .i64 x.book, .int .i64 x.num, .int .i64 x.at_, .slice x.d1 x.d2 x.d3, .slice x.l1 x.l2 x.l3] 39)) B1 (hrd.below (ba wr _))).mono (fun e w' (hq : _ ∧ _) => (⟨⟨_, hq.1⟩, by
        obtain ⟨Q', lv', ps', N', a1, a2, a3⟩ := hq.2
        exact hid ⟨_, Q', lv', ps', N', a1, a2, fun x hx => by cases hx⟩⟩ : (∃ k : Int, e = .returned (.int .i64 k)) ∧ Hid (∃ S, Has [] g m [inC w] S w'))))
      have wi : IntKind.i64.wrap ((i : Int) + 1) = ((i + 1 : Nat) : Int) := by
        have := HL.out
        unfold maxLen at this
        rw [IntKind.wrap_i64]; omega
      clear A1 B1 hS h3 hcell hrd hbel hii hxi
      go_wp2_with (go_at_call 12; refine PP.out.mono ?_; rintro e w4 ⟨⟨k, rfl⟩, h4⟩)
      go_roundw
      case rel => exact ⟨i + 1, rfl, by omega, h4⟩
      case measure => simp only; omega
    · obtain ⟨S, Q1, lv1, ps1, N1, A1, B1, _⟩ := hS.out
      obtain ⟨h', hh', rfl⟩ := B1.pow
      have OK := looks_ok B1 hh' at_
      simp only at OK
      have G1 : Hid (Calls Try.prog 20 #[.pointer (some ⟨g, 0, none⟩), .int .i64 at_, .int .i64 (-1)] wr fun e w4 => ∃ ao4 c4 k, e = .returned (.slice ao4 k c4) ∧ Hid (k = (sel N1 (2 ^ h') at_.toNat (vis N1 at_.toNat h' 1)).length) ∧ Hid (Calls Try.prog 23 #[.pointer (some ⟨g, 0, none⟩), .int .i64 at_] w4 fun e w5 => e = .returned (.int .i64 (looksN N1 at_ h')) ∧ Below w.heap.size w w5)) := hid ((given_whole A1 B1 hh').mono (fun e w4 hq => by
        obtain ⟨ao4, c4, ys, rfl, hk, hA4⟩ := hq
        refine ⟨ao4, c4, ys.length, rfl, hid (by rw [← hk]; simp), hid ((Looks_all hA4.tail.rest B1 hh').mono (fun e w5 (hq : _ ∧ _) => ⟨hq.1, hq.2.into (by simp)⟩))⟩))
      generalize (sel N1 (2 ^ h') at_.toNat (vis N1 at_.toNat h' 1)).length = kk at *
      generalize looksN N1 at_ h' = lk at *
      clear A1 B1 hS h3
      have OK := hid OK
      by_cases hk0 : kk = 0
      · have l1 : lk = 1 := OK.out.2.2.1 hk0
        subst hk0
        subst l1
        clear OK
        have G1 : Hid (Calls Try.prog 20 #[.pointer (some ⟨g, 0, none⟩), .int .i64 at_, .int .i64 (-1)] wr fun e w4 => ∃ ao4 c4, e = .returned (.slice ao4 0 c4) ∧ Hid (Calls Try.prog 23 #[.pointer (some ⟨g, 0, none⟩), .int .i64 at_] w4 fun e w5 => e = .returned (.int .i64 1) ∧ Below w.heap.size w w5)) := hid (G1.out.mono (fun e w4 hq => by
          obtain ⟨ao4, c4, k, rfl, hk, hh⟩ := hq
          rw [hk.out]
          exact ⟨ao4, c4, rfl, hh⟩))
        go_wp2_with (first | (go_at_call 20; refine G1.out.mono ?_; rintro e w4 ⟨ao4, c4, rfl, hlk⟩) | (go_at_call 23; refine hlk.out.mono ?_; rintro e w5 ⟨rfl, h5⟩))
        go_ret
        exact ⟨rfl, h5⟩
      · obtain ⟨o1, o2, o3, o4⟩ := OK.out.2.2.2 hk0
        have o5 := OK.out.1
        have o6 := OK.out.2.1
        have G1 : Hid (Calls Try.prog 20 #[.pointer (some ⟨g, 0, none⟩), .int .i64 at_, .int .i64 (-1)] wr fun e w4 => ∃ ao4 c4, e = .returned (.slice ao4 kk c4) ∧ Hid (Calls Try.prog 23 #[.pointer (some ⟨g, 0, none⟩), .int .i64 at_] w4 fun e w5 => e = .returned (.int .i64 lk) ∧ Below w.heap.size w w5)) := hid (G1.out.mono (fun e w4 hq => by
          obtain ⟨ao4, c4, k, rfl, hk, hh⟩ := hq
          rw [hk.out]
          exact ⟨ao4, c4, rfl, hh⟩))
        have d0 : ((kk : Int) == 0) = false := by simpa using hk0
        have d1 : decide (kk = 0) = false := by simpa using hk0
        obtain ⟨k12, e12⟩ : ∃ k12 : Nat, Hid (k12 = 12 * kk) := ⟨_, hid rfl⟩
        obtain ⟨k13, e13⟩ : ∃ k13 : Nat, Hid (k13 = 1 + k12) := ⟨_, hid rfl⟩
        have w12 : IntKind.i64.wrap (12 * (kk : Int)) = (k12 : Int) := by rw [e12.out, IntKind.wrap_i64]; omega
        have w13 : IntKind.i64.wrap (1 + (k12 : Int)) = (k13 : Int) := by rw [e13.out, IntKind.wrap_i64]; have := e12.out; omega
        have d2 : (lk : Int) ≤ (k13 : Int) := by have := e12.out; have := e13.out; omega
        have d3 : (lk : Int) ≥ 1 := by omega
        clear e12 e13 OK o5 o6 o1 o2
        by_cases hm : m = 1
        · have hl : lk = 1 := by omega
          subst hl
          subst hm
          clear o3 o4 HM
          go_wp2_with (first | (go_at_call 20; refine G1.out.mono ?_; rintro e w4 ⟨ao4, c4, rfl, hlk⟩) | (go_at_call 23; refine hlk.out.mono ?_; rintro e w5 ⟨rfl, h5⟩))
          go_ret
          exact ⟨rfl, h5⟩
        · have m1 : (m : Int) > 1 := by have := HM.out; omega
          have m2 : decide (m = 1) = false := by simpa using hm
          have l3 : (lk : Int) ≥ 3 := by omega
          clear o3 o4
          go_wp2_with (first | (go_at_call 20; refine G1.out.mono ?_; rintro e w4 ⟨ao4, c4, rfl, hlk⟩) | (go_at_call 23; refine hlk.out.mono ?_; rintro e w5 ⟨rfl, h5⟩))
          go_ret
          exact ⟨by simp, h5⟩

end Go.Proofs.Ytaomhahmpbfjhaa

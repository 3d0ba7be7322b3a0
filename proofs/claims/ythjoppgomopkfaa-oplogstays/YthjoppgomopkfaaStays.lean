import Derived.Test.YthjoppgomopkfaaActs
import Derived.Test.YthjoppgomopkfaaLog3
import Derived.Test.YthjoppgomopkfaaCut
import Derived.Deep.CutBlock
namespace Go.Proofs.Ythjoppgomopkfaa
open Go.RowKit
set_option linter.unusedVariables false

def five : Ent := ⟨0, 5, 0, ⟨#[]⟩, ⟨#[]⟩, 0, 0⟩

/-- The log and all that was added, by ops. -/
structure StI (w0 : World) (g h n b : Nat) (v : Value) (xs : List Ent) (w : World) : Prop where
  lt : b < xs.length
  ok : ∃ ps, LogOk b n (xs.drop (b + 1)) ps ∧ All (entC v xs :: (logP g h b (xs.length - 1) n ps ++ [inC w0])) w

theorem StI.later {w0 : World} {g h n b : Nat} {v : Value} {xs : List Ent} {w w' : World} (k : StI w0 g h n b v xs w) (hb : Below w.heap.size w w') : StI w0 g h n b v xs w' := by
  obtain ⟨ps, k1, A⟩ := k.ok
  exact ⟨k.lt, ps, k1, A.later hb⟩

theorem All.in1 {a : Comp} {X cs : List Comp} {w : World} (h : All (a :: (X ++ cs)) w) : All (X ++ (a :: cs)) w := h.perm List.perm_middle.symm
theorem All.out1 {a : Comp} {X cs : List Comp} {w : World} (h : All (X ++ (a :: cs)) w) : All (a :: (X ++ cs)) w := h.perm List.perm_middle
theorem All.in2 {a b : Comp} {X cs : List Comp} {w : World} (h : All (a :: b :: (X ++ cs)) w) : All (X ++ (b :: a :: cs)) w := (All.in1 (X := X) (All.in1 (X := b :: X) h))
theorem All.out2 {a b : Comp} {X cs : List Comp} {w : World} (h : All (X ++ (b :: a :: cs)) w) : All (a :: b :: (X ++ cs)) w := All.out1 (X := b :: X) (All.out1 h)

set_option maxHeartbeats 3200000 in
set_option maxRecDepth 1000000 in
theorem stays_walk {w : World} {sv : Value} {acts : List Act0} (hs : ActsAt w sv acts) (hlen : acts.length ≤ 1099511627744) (room : Int) (hr : i64In room) : Calls Try.prog 5 #[.int .i64 room, sv] w fun e w' => e = .returned (.bool true) ∧ Below w.heap.size w w' := by
  obtain ⟨ao, cp, rfl⟩ := acts_form hs
  have HS := hid hs
  clear hs
  by_cases hroom : 1 ≤ room ∧ room ≤ 64
  case neg =>
    have H1 := hid (New_no (w := w) room hroom)
    by_cases r1 : room < 1
    · have e1 : decide (room < 1) = true := decide_eq_true r1
      go_enter Try.func5, Try.ntmps5
      go_wp2_with fail
      refine H1.out.mono ?_
      rintro e w1 ⟨rfl, rfl⟩
      go_wp2
      go_ret
      exact ⟨rfl, Below.refl _ _⟩
    · have e1 : decide (room < 1) = false := decide_eq_false r1
      have r2 : 64 < room := by omega
      have e2 : decide (64 < room) = true := decide_eq_true r2
      go_enter Try.func5, Try.ntmps5
      go_wp2_with fail
      refine H1.out.mono ?_
      rintro e w1 ⟨rfl, rfl⟩
      go_wp2
      go_ret
      exact ⟨rfl, Below.refl _ _⟩
  obtain ⟨n, rfl⟩ : ∃ n : Nat, room = (n : Int) := ⟨room.toNat, by omega⟩
  have h0 : 0 < n := by omega
  have hn : n ≤ 64 := by omega
  have H1 := hid (New_ok (All.came w) n h0 hn)
  have e1 : decide ((n : Int) < 1) = false := decide_eq_false (by omega)
  have e2 : decide ((64 : Int) < (n : Int)) = false := decide_eq_false (by omega)
  have i1 : ¬ ((n : Int) < 1) := by omega
  have i2 : ¬ ((64 : Int) < (n : Int)) := by omega
  clear hroom hr
  go_enter Try.func5, Try.ntmps5
  go_wp2_with fail
  refine H1.out.mono ?_
  rintro e w1 ⟨g, h, rfl, A1⟩
  have H2 := hid (Add_ok (l := []) A1 (LogOk.new h0 hn 0 (by omega)) five (by simpa using h0) (by simp))
  have K1 := hid ((LogOk.new h0 hn 0 (by omega)).add (l := []) (by simpa using h0) (by simp) five)
  clear A1 H1
  go_wp2_with fail
  refine H2.out.mono ?_
  rintro e w2 ⟨rfl, A2⟩
  have HI : Hid (StI w g h n 0 (.slice (some ⟨w2.heap.size, 0, none⟩) 2 2) [Ent.zero, five] (w2.alloc (.cells (flatE [Ent.zero, five]).toArray 39))) := hid ⟨by simp, _, K1.out, A2.addEnts [Ent.zero, five] (by decide)⟩
  clear A2 H2 K1
  go_wp2_with fail
  have eW : (w2.alloc (.cells #[.int .i64 0, .int .i64 0, .int .i64 0, .string ⟨#[]⟩, .string ⟨#[]⟩, .int .i64 0, .int .i64 0, .int .i64 0, .int .i64 5, .int .i64 0, .string ⟨#[]⟩, .string ⟨#[]⟩, .int .i64 0, .int .i64 0] 39)) = (w2.alloc (.cells (flatE [Ent.zero, five]).toArray 39)) := rfl
  rw [eW]
  clear eW e1 e2 i1 i2
  generalize (w2.alloc (.cells (flatE [Ent.zero, five]).toArray 39)) = w3 at HI ⊢
  generalize w2.heap.size = K2 at HI ⊢
  go_loopw [7, 8, 51] (fun v7 v8 iv wr => ∃ (i b : Nat) (xs : List Ent), i ≤ acts.length ∧ iv = .int .i64 (i : Int) ∧ v8 = .int .i64 (b : Int) ∧ Hid (xs.length ≤ i + 2) ∧ Hid (StI w g h n b v7 xs wr)) (fun _ _ iv _ => acts.length - (intOf iv).toNat)
  case atStart => exact ⟨0, 0, [Ent.zero, five], by omega, rfl, rfl, hid (by simp), HI⟩
  case round =>
    clear HI
    obtain ⟨i, b, xs, hi, rfl, rfl, HX, HI⟩ := hrel
    by_cases hlt : i < acts.length
    · obtain ⟨x, hx⟩ : ∃ x, Hid (acts[i]? = some x) := ⟨_, hid (List.getElem?_eq_getElem hlt)⟩
      have HG := hid (acts_good HS.out hx.out)
      obtain ⟨ps, K1, A1⟩ := HI.out.ok
      have hbl := HI.out.lt
      have HB := hid (A1.into (w0 := w) (by simp))
      obtain ⟨ga, oa, rfl, hga, y0, y1, y2, y3, y4, y5, y6, y7, y8, y9, y10, y11⟩ := acts_cells HS.out HB.out hx.out
      have hK : ga ≠ wr.heap.size := by have := HB.out.size; omega
      obtain ⟨a7, c7, rfl, hc7⟩ := owns7_form A1.1.2.1
      have A2 : Hid (All (blkC wr.heap.size x.cells 42 :: entC (.slice a7 xs.length c7) xs :: (logP g h b (xs.length - 1) n ps ++ [inC w])) (wr.alloc (.cells x.cells.toArray 42))) := hid (A1.addBlk x.cells 42)
      have K1 := hid K1
      obtain ⟨sa, sc, es, _⟩ := HG.out.rd
      have ES : Hid (x.cells.toArray = #[.int .i64 x.kd, .int .i64 x.lg, .int .i64 x.op, .int .i64 x.ms, .int .i64 x.e.c, .int .i64 x.e.n, .int .i64 x.e.k, .string x.e.nm, .string x.e.tx, .int .i64 x.e.m, .int .i64 x.e.q, .slice sa x.l.length sc]) := hid (by rw [← es]; rfl)
      rw [es] at y11
      clear A1 HI es
      have l1 : decide ((i : Int) < (acts.length : Int)) = true := decide_eq_true (by omega)
      have l2 : (i : Int) < (acts.length : Int) := by omega
      go_upto_if 58 with fail
      rw [← ES.out]
      clear y0 y1 y2 y3 y4 y5 y6 y7 y8 y9 y10 y11
      generalize wr.alloc (.cells x.cells.toArray 42) = w4 at A2 ⊢
      generalize wr.heap.size = K at A2 hK ⊢
      go_cut [7, 8] (fun v7 v8 wx => ∃ (b' : Nat) (xs' : List Ent) (wy : World), wy = wx ∧ v8 = .int .i64 (b' : Int) ∧ Hid (xs'.length ≤ i + 3) ∧ Hid (StI w g h n b' v7 xs' wy))
      case first =>
        obtain ⟨z0, z1, z2, z3, z4, z5, z6, z7, z8, z9, z10, z11⟩ := act_cells A2.out.1.2.1
        have HSame : Hid (StI w g h n b (.slice a7 xs.length c7) xs w4) := hid ⟨hbl, ps, K1.out, A2.out.tail⟩
        by_cases h4 : x.kd.tmod 4 = 0
        · have q4 : (x.kd.tmod 4 == 0) = true := by simpa using h4
          by_cases h5 : (b : Int) ≤ x.op
          · have q5 : decide ((b : Int) ≤ x.op) = true := decide_eq_true h5
            by_cases h6 : x.op < (xs.length : Int)
            · have q6 : decide (x.op < (xs.length : Int)) = true := decide_eq_true h6
              obtain ⟨o, ho⟩ : ∃ o : Nat, x.op = (o : Int) := ⟨x.op.toNat, by omega⟩
              have hol : o < xs.length := by omega
              have hbo : b ≤ o := by omega
              have A3 : Hid (All (logP g h b (b + (xs.drop (b + 1)).length) n ps ++ (entC (.slice a7 xs.length c7) xs :: blkC K x.cells 42 :: [inC w])) w4) := hid (by
                have e : b + (xs.drop (b + 1)).length = xs.length - 1 := by simp; omega
                rw [e]
                exact A2.out.in2)
              have HC := hid (Cut_ok A3.out K1.out o hbo (by simp; omega))
              rw [← ho] at HC
              have HO := hid ho
              clear A2 A3 ho
              go_wp2_with fail
              refine HC.out.mono ?_
              rintro e w5 ⟨rfl, ps', K2, A4⟩
              have A4 := hid A4
              have HN : Hid (StI w g h n o (.slice a7 xs.length c7) xs w5) := hid (by
                have e : b + (xs.drop (b + 1)).length = xs.length - 1 := by simp; omega
                have A5 := A4.out
                rw [e] at A5
                refine ⟨hol, ps', ?_, A5.out2.tail⟩
                rw [List.drop_drop, show b + 1 + (o - b) = o + 1 by omega] at K2
                exact K2)
              obtain ⟨z0, z1, z2, z3, z4, z5, z6, z7, z8, z9, z10, z11⟩ := act_cells (A4.out.out2.1.2.1)
              clear HC HSame
              go_wp2_with fail
              go_meet
              exact ⟨o, xs, _, rfl, by rw [HO.out], hid (by have := HX.out; omega), HN⟩
            · have q6 : decide (x.op < (xs.length : Int)) = false := decide_eq_false h6
              go_wp2_with fail
              go_meet
              exact ⟨b, xs, _, rfl, rfl, hid (by have := HX.out; omega), HSame⟩
          · have q5 : decide ((b : Int) ≤ x.op) = false := decide_eq_false h5
            go_wp2_with fail
            go_meet
            exact ⟨b, xs, _, rfl, rfl, hid (by have := HX.out; omega), HSame⟩
        · have q4 : (x.kd.tmod 4 == 0) = false := by simpa using h4
          have A3 : Hid (All (logP g h b (b + (xs.drop (b + 1)).length) n ps ++ (entC (.slice a7 xs.length c7) xs :: blkC K x.cells 42 :: [inC w])) w4) := hid (by
            have e : b + (xs.drop (b + 1)).length = xs.length - 1 := by simp; omega
            rw [e]
            exact A2.out.in2)
          have hXl := HX.out
          have hdl : (xs.drop (b + 1)).length = xs.length - (b + 1) := by simp
          clear A2
          by_cases hf : (xs.drop (b + 1)).length = n
          · have HC := hid (Add_full A3.out K1.out x.e hf)
            have qf : (((xs.length : Int) - 1 - (b : Int)) == (n : Int)) = true := by simp; omega
            have qf2 : ((xs.length : Int) - 1 - (b : Int)) = (n : Int) := by omega
            clear A3 hf
            go_wp2_with fail
            refine HC.out.mono ?_
            rintro e w5 ⟨rfl, A4⟩
            have A4 := hid A4
            have HN : Hid (StI w g h n b (.slice a7 xs.length c7) xs w5) := hid (by
              have e : b + (xs.drop (b + 1)).length = xs.length - 1 := by simp; omega
              have A5 := A4.out
              rw [e] at A5
              exact ⟨hbl, ps, K1.out, A5.out2.tail⟩)
            clear HC HSame A4 z0 z1 z2 z3 z4 z5 z6 z7 z8 z9 z10 z11
            go_wp2_with fail
            go_meet
            exact ⟨b, xs, _, rfl, rfl, hid (by omega), HN⟩
          · have hfl := K1.out.few
            have HC := hid (Add_ok A3.out K1.out x.e (by omega) (by omega))
            have qf : (((xs.length : Int) - 1 - (b : Int)) == (n : Int)) = false := by simp; omega
            have qf2 : ¬ ((xs.length : Int) - 1 - (b : Int)) = (n : Int) := by omega
            have K2 := hid (K1.out.add (by omega) (by omega) x.e)
            clear A3 hf
            go_wp2_with fail
            refine HC.out.mono ?_
            rintro e w5 ⟨rfl, A4⟩
            have A4 := hid A4.out2
            obtain ⟨z0, z1, z2, z3, z4, z5, z6, z7, z8, z9, z10, z11⟩ := act_cells (A4.out.1.2.1)
            have A5 := hid (A4.out.tail.alloc (.cells #[.int .i64 x.e.c, .int .i64 x.e.n, .int .i64 x.e.k, .string x.e.nm, .string x.e.tx, .int .i64 x.e.m, .int .i64 x.e.q] 39))
            have hrow := A5.out.1.2.1
            have hcell : ∀ j u, x.e.cells[j]? = some u → (w5.alloc (.cells #[.int .i64 x.e.c, .int .i64 x.e.n, .int .i64 x.e.k, .string x.e.nm, .string x.e.tx, .int .i64 x.e.m, .int .i64 x.e.q] 39)).cell? ((⟨w5.heap.size, 0, none⟩ : Addr).add j) = some u := fun j u hu => by
              rw [Addr.add_lit, Nat.zero_add, cell_at (heap_alloc_new w5 _)]
              exact (List.getElem?_toArray (xs := x.e.cells) ..).trans hu
            have HR := hid hrow
            have HCe := hid hcell
            clear HC HSame hrow hcell A4
            obtain ⟨i1, hi1, hz0, hz1, hz2⟩ := info_parts Try.info39
            go_wp2_with (at_builtin; refine wpList_append_own_at _ rfl (.tmp 102) (.tmp 105) 40 rfl 0 39 i1 (.agg Ent.zero.cells.toArray) 7 72 Try.underlying40 hi1 hz0 hz1 hz2 rfl (by decide) _ _ _ rfl HR.out ⟨w5.heap.size, 0, none⟩ 1 1 x.e.cells rfl rfl HCe.out (Ent.one x.e) (by unfold maxLen; omega) (by omega) (by omega) ?_; intro ov' w6 hown hgr hnil hat')
            have HN : Hid (StI w g h n b ov' (xs ++ [x.e]) w6) := hid (by
              have A6 := A5.out.rowGrow (vs' := flatE (xs ++ [x.e])) (n' := (xs ++ [x.e]).length) (by rw [flatE_snoc, List.length_append]; exact hown) hgr hat'
              have e : b + (xs.drop (b + 1)).length + 1 = (xs ++ [x.e]).length - 1 := by simp; omega
              rw [e] at A6
              refine ⟨by simp; omega, _, ?_, A6⟩
              rw [List.drop_append_of_le_length (by omega)]
              have k := K2.out
              rw [e] at k
              exact k)
            clear hown hgr hnil hat' A5 HR HCe
            go_wp2_with fail
            go_meet
            exact ⟨b, xs ++ [x.e], _, rfl, rfl, hid (by simp; omega), HN⟩
      case rest =>
        obtain ⟨b', xs', wy, rfl, rfl, HX', HI'⟩ := hcut
        clear HX K1 A2 HB HG hbl hc7 l1 l2
        have hx' := HX'.out
        obtain ⟨ps', K', A'⟩ := HI'.out.ok
        obtain ⟨a8, c8, rfl, hc8⟩ := owns7_form A'.1.2.1
        have hb' := HI'.out.lt
        have hd := A'.tail.head
        have hk' := K'.few
        have hdl : (xs'.drop (b' + 1)).length = xs'.length - (b' + 1) := by simp
        have B1 := hid (base_any hd)
        have B2 := hid (op_any hd)
        have B3 := hid (Room_any hd (by omega) (by omega) hn (by omega))
        have HL := hid hx'
        clear A' K' hd hx'
        generalize hN : xs'.length = N at *
        generalize hN1 : N - 1 = N1 at *
        generalize hR : n - (N1 - b') = R at *
        have e22 : ((N1 : Int) != (N : Int) - 1) = false := by simp; omega
        have e23 : ((R : Int) != (n : Int) - ((N : Int) - 1 - (b' : Int))) = false := by simp; omega
        have e22b : (N1 : Int) = (N : Int) - 1 := by omega
        have hNN : N ≤ 1099511627800 := by have := HL.out; omega
        clear hR hN1 hdl hk'
        have E22 := hid e22b
        clear e22b
        go_wp2_with fail
        refine B1.out.mono ?_
        rintro e w5 ⟨rfl, rfl⟩
        go_wp2_with fail
        refine B2.out.mono ?_
        rintro e w6 ⟨rfl, rfl⟩
        go_wp2_with fail
        refine B3.out.mono ?_
        rintro e w7 ⟨rfl, hb7⟩
        have HI7 := hid (HI'.out.later hb7)
        clear hb7 HI'
        go_wp2_with fail
        go_roundw
        case rel => exact ⟨i + 1, b', xs', by omega, by go_num, rfl, hid (by have := HL.out; omega), HI7⟩
        case measure => simp [intOf]; omega
    · have l1 : decide ((i : Int) < (acts.length : Int)) = false := decide_eq_false (by omega)
      have l2 : ¬ ((i : Int) < (acts.length : Int)) := by omega
      obtain ⟨ps, K1, A1⟩ := HI.out.ok
      obtain ⟨a7, c7, rfl, hc7⟩ := owns7_form A1.1.2.1
      clear A1 K1
      have hNN : xs.length ≤ 1099511627800 := by have := HX.out; omega
      clear HS HX
      go_wp2_with fail
      go_loopw [134] (fun iv wr => ∃ (j : Nat), j ≤ xs.length ∧ iv = .int .i64 (j : Int) ∧ Hid (StI w g h n b (.slice a7 xs.length c7) xs wr)) (fun iv _ => xs.length - (intOf iv).toNat)
      case atStart => exact ⟨0, by omega, rfl, HI⟩
      case round =>
        clear HI l1 l2 hlt hi
        obtain ⟨j, hj, rfl, HJ⟩ := hrel
        by_cases hlt : j < xs.length
        · have m1 : decide ((j : Int) < (xs.length : Int)) = true := decide_eq_true (by omega)
          have m2 : (j : Int) < (xs.length : Int) := by omega
          obtain ⟨ps, K1, A1⟩ := HJ.out.ok
          have hbl := HJ.out.lt
          have hdl : (xs.drop (b + 1)).length = xs.length - (b + 1) := by simp
          by_cases hjb : b < j
          · obtain ⟨y, hy⟩ : ∃ y, xs[j]? = some y := ⟨_, List.getElem?_eq_getElem hlt⟩
            have HA := hid (At_yes (l := xs.drop (b + 1)) (by have := A1.tail.head; rwa [show xs.length - 1 = b + (xs.drop (b + 1)).length by omega] at this) A1.tail.tail.1.2.1 K1 j hjb (by omega) (x := y) (by rw [List.getElem?_drop, show b + 1 + (j - b - 1) = j by omega]; exact hy))
            have g1 : decide ((b : Int) < (j : Int)) = true := decide_eq_true (by omega)
            have g2 : (b : Int) < (j : Int) := by omega
            have EQ := fun w => eq39 y y w
            have F : Hid (∀ W, StI w g h n b (.slice a7 xs.length c7) xs W → ∃ ga, a7 = some ⟨ga, 0, none⟩ ∧ entAt W ga (j * 7) y) := hid (fun W hW => by
              obtain ⟨ps, K1, A1⟩ := hW.ok
              obtain ⟨ga, e1, _, e2⟩ := owns7 A1.1.2.1 hy
              exact ⟨ga, e1, entAt_of e2⟩)
            simp only [decide_true] at EQ
            clear A1 K1 hdl
            go_wp2_with fail
            refine HA.out.mono ?_
            rintro e w5 ⟨rfl, hb5⟩
            have HJ5 := hid ((HJ.out.later hb5).later (ba w5 (.cells #[.int .i64 y.c, .int .i64 y.n, .int .i64 y.k, .string y.nm, .string y.tx, .int .i64 y.m, .int .i64 y.q] 39)))
            obtain ⟨ga, rfl, s1, s2, s3, s4, s5, s6, s7⟩ := F.out _ HJ5.out
            clear HA HJ F hb5
            go_wp2_with fail
            obtain ⟨t1, t2, t3, t4, t5, t6, t7⟩ := entAt_of (range_one (e := y) (heap_alloc_new w5 (.cells #[.int .i64 y.c, .int .i64 y.n, .int .i64 y.k, .string y.nm, .string y.tx, .int .i64 y.m, .int .i64 y.q] 39)))
            unfold Ent.V at EQ
            generalize (w5.alloc (.cells #[.int .i64 y.c, .int .i64 y.n, .int .i64 y.k, .string y.nm, .string y.tx, .int .i64 y.m, .int .i64 y.q] 39)) = w6 at *
            generalize w5.heap.size = K5 at *
            simp only [Nat.zero_add] at t1 t2 t3 t4 t5 t6 t7
            go_quiet (fail)
            go_wp2
            go_roundw
            case rel => exact ⟨j + 1, by omega, by go_num, hid (HJ5.out.later (bdN _ _))⟩
            case measure => simp [intOf]; omega
          · have hd := A1.tail.head
            have HA := hid (At_no hd j (by omega))
            have g1 : decide ((b : Int) < (j : Int)) = false := decide_eq_false (by omega)
            have g2 : ¬ (b : Int) < (j : Int) := by omega
            clear A1 K1 hdl hd
            go_wp2_with fail
            refine HA.out.mono ?_
            rintro e w5 ⟨rfl, hb5⟩
            have HJ5 := hid ((HJ.out.later hb5).later (ba w5 (.cells #[.int .i64 0, .int .i64 0, .int .i64 0, .string ⟨#[]⟩, .string ⟨#[]⟩, .int .i64 0, .int .i64 0] 39)))
            clear HA HJ hb5
            go_wp2_with fail
            go_quiet (fail)
            go_wp2
            go_roundw
            case rel => exact ⟨j + 1, by omega, by go_num, hid (HJ5.out.later (bdN _ _))⟩
            case measure => simp [intOf]; omega
        · have m1 : decide ((j : Int) < (xs.length : Int)) = false := decide_eq_false (by omega)
          have m2 : ¬ ((j : Int) < (xs.length : Int)) := by omega
          go_wp2
          go_ret
          obtain ⟨ps, K1, A1⟩ := HJ.out.ok
          exact ⟨rfl, A1.into (w0 := w) (by simp)⟩
end Go.Proofs.Ythjoppgomopkfaa

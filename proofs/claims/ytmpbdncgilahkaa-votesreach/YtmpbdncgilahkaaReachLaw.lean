import Derived.Test.YtmpbdncgilahkaaReach
import Derived.Deep.DeepCutAuto
import Derived.Deep.CutBlock
namespace Go.Proofs.Ytmpbdncgilahkaa
open Go.RowKit
set_option linter.unusedVariables false

theorem lay_mem {raw : List Int} {n i : Nat} (hr : ∀ x ∈ raw, -9223372036854775808 ≤ x ∧ x < 9223372036854775808) : ∀ x ∈ lay raw n i, -9223372036854775808 ≤ x ∧ x < 9223372036854775808 := by
  intro x hx
  rcases List.mem_append.1 hx with h | h
  · exact hr x (List.mem_of_mem_take h)
  · have := List.eq_of_mem_replicate h
    omega

set_option maxHeartbeats 1600000 in
set_option maxRecDepth 1000000 in
theorem reach_walk {w : World} {size who more : Int} {v : Value} {raw : List Int} (hx : IntsAt w v raw) (hraw : ∀ x ∈ raw, -9223372036854775808 ≤ x ∧ x < 9223372036854775808) (hs : -9223372036854775808 ≤ size ∧ size < 9223372036854775808) (hw : -9223372036854775808 ≤ who ∧ who < 9223372036854775808) (hm : -9223372036854775808 ≤ more ∧ more < 9223372036854775808) :
    Calls Try.prog 6 #[.int .i64 size, v, .int .i64 who, .int .i64 more] w fun e w' => e = .returned (.bool true) ∧ Below w.heap.size w w' := by
  obtain ⟨ao, cap, rfl, hcap, _⟩ := id hx
  have X := hid hx
  have R := hid hraw
  have HS := hid hs
  have HW := hid hw
  have HM := hid hm
  clear hx hraw hs hw hm
  go_enter Try.func6, Try.ntmps6
  go_wp2_with fail
  refine shown_any.mono ?_
  rintro e w1 ⟨rfl, B1⟩
  have B1 := hid B1
  go_wp2_with fail
  refine (pick_any HS.out.1 HS.out.2 (by omega) (by omega)).mono ?_
  rintro e w2 ⟨rfl, rfl⟩
  obtain ⟨n, hn, hn3⟩ : ∃ n : Nat, 3 + 2 * pk size 3 = (n : Int) ∧ (n = 3 ∨ n = 5 ∨ n = 7) := by
    have h1 := pk_nn (c := size) (n := 3) (by omega)
    have h2 := pk_lt (c := size) (n := 3) (by omega)
    exact ⟨(3 + 2 * pk size 3).toNat, by omega, by omega⟩
  obtain ⟨r, hr⟩ : ∃ r, pk size 3 = r := ⟨_, rfl⟩
  rw [hr] at hn ⊢
  have hr0 : 0 ≤ r := by omega
  have hr2 : r ≤ 2 := by omega
  have hn7 : (n : Int) ≤ 7 := by omega
  have hn1 : (3 : Int) ≤ n := by omega
  have F : Hid (fl n = true) := hid (by rcases hn3 with rfl | rfl | rfl <;> rfl)
  obtain ⟨m, hmm, hm2⟩ : ∃ m : Nat, maj n = m ∧ Hid ((maj n).toNat = m) := ⟨(maj n).toNat, by have := (maj_nat F.out).2.2; omega, hid rfl⟩
  have HMM := hid hmm
  obtain ⟨wa, mk1, hBa, hga⟩ := made_ints_n (w := w2) n (by omega)
  rw [← lay_zero raw n] at hga
  have GA : Hid (RowI wa w2.heap.size (lay raw n 0)) := hid hga
  have BB := hid (B1.out.trans (hBa.mono B1.out.size))
  have hgw := hid B1.out.size
  generalize w2.heap.size = g at *
  obtain ⟨len, hlen⟩ : ∃ len, Hid (raw.length = len) := ⟨_, hid rfl⟩
  have XC : Hid (∀ i x, raw[i]? = some x → ∃ b off, ao = some ⟨b, off, none⟩ ∧ b < w.heap.size ∧ w.cell? ⟨b, off + i, none⟩ = some (.int .i64 x)) := hid fun i x hx => by
    obtain ⟨ao', cap', e, _, ⟨rfl, _⟩ | ⟨b, off, e2, hb, hc⟩⟩ := X.out
    · simp at hx
    · simp only [Value.slice.injEq] at e
      exact ⟨b, off, by rw [e.1, e2], hb, hc i _ (by rw [List.getElem?_map, hx]; rfl)⟩
  rw [hlen.out] at hcap ⊢
  have hcap := hid hcap
  clear hr HS hn3 hBa hga B1 X hmm
  go_upto_block 0 with fail
  clear mk1 hn hr0 hr2
  go_cut [12] (fun _ wx => ∃ xs : List Int, Hid (RowI wx g xs) ∧ Hid (xs.length = n) ∧ Hid (∀ x ∈ xs, -9223372036854775808 ≤ x ∧ x < 9223372036854775808) ∧ Hid (Below w.heap.size w wx))
  case first =>
   go_wp2
   go_loopw [12] (fun iv wr => ∃ i : Nat, i ≤ n ∧ i ≤ len ∧ iv = .int .i64 i ∧ Hid (RowI wr g (lay raw n i)) ∧ Hid (Below w.heap.size w wr))
     (fun iv _ => match iv with | .int _ i => ((n : Int) - i).toNat | _ => 0)
   case atStart => exact ⟨0, by omega, by omega, rfl, GA, BB⟩
   case round =>
     obtain ⟨i, hi, hil, rfl, GA, BB⟩ := hrel
     by_cases hgo : i < n ∧ i < len
     · have h1 : (i : Int) < n := by omega
       have h2 : (i : Int) < len := by omega
       obtain ⟨x, hx⟩ : ∃ x, raw[i]? = some x := ⟨_, List.getElem?_eq_getElem (by have := hlen.out; omega)⟩
       obtain ⟨b, off, hao, hb, cx⟩ := XC.out i x hx
       have cx : wr.cell? ⟨b, off + i, none⟩ = some (.int .i64 x) := (BB.out.cell (p := ⟨b, off + i, none⟩) hb).trans cx
       subst hao
       obtain ⟨y, hy⟩ : ∃ y, (lay raw n i)[i]? = some y := ⟨_, List.getElem?_eq_getElem (by rw [lay_len hi (by have := hlen.out; omega)]; omega)⟩
       have cg := GA.out.cell hy
       have fg : wr.frozen? ⟨g, i, none⟩ = false := free_at GA.out i
       have HX := hid hx
       clear hx hy hb hgo
       go_wp2
       go_roundw
       case rel =>
         refine ⟨i + 1, by omega, by omega, by go_num, ?_, hid (BB.out.setCell (p := ⟨g, i, none⟩) hgw.out _)⟩
         have := heap_setCell_same (j := i) GA.out (.int .i64 x)
         rw [List.setIfInBounds_toArray, lay_set (by omega) HX.out] at this
         exact hid this
       case measure => simp; omega
     · have hxl : (lay raw n i).length = n := lay_len hi (by have := hlen.out; omega)
       have hxm := lay_mem (n := n) (i := i) R.out
       obtain ⟨xs, hxs⟩ : ∃ xs, lay raw n i = xs := ⟨_, rfl⟩
       rw [hxs] at GA hxl hxm
       have HXL := hid hxl
       have HXM := hid hxm
       clear hxs hxl hxm
       by_cases h1 : (i : Int) < n
       · have h2 : decide ((i : Int) < len) = false := decide_eq_false (by omega)
         have h3 : decide (i < len) = false := decide_eq_false (by omega)
         clear hgo hil
         go_wp2_with fail
         go_meet
         exact ⟨xs, GA, HXL, HXM, BB⟩
       · have h3 : decide ((i : Int) < n) = false := decide_eq_false (by omega)
         clear hgo hil
         go_wp2_with fail
         go_meet
         exact ⟨xs, GA, HXL, HXM, BB⟩
  case rest =>
  obtain ⟨xs, GA, HXL, HXM, BB⟩ := hcut
  clear R XC hcap hlen
  go_wp2_with fail
  refine (Point_row F.out HXL.out GA.out).mono ?_
  rintro e w5 ⟨rfl, hB5, G5⟩
  obtain ⟨k, hk⟩ : ∃ k, Hid (pnt n xs = k) := ⟨_, hid rfl⟩
  rw [hk.out]
  have B5 := hid (BB.out.trans (hB5.mono BB.out.size))
  have G5 := hid G5
  clear GA BB hB5
  go_upto_block 2 with fail
  go_cut [15, 16, 17] (fun av bv _ wx => wx = w5 ∧ av = .int .i64 (ge k xs) ∧ bv = .int .i64 (gt k xs))
  case first =>
   go_wp2
   go_loopw [15, 16, 17] (fun av bv iv wx => ∃ i : Nat, i ≤ n ∧ iv = .int .i64 i ∧ av = .int .i64 (ge k (xs.take i)) ∧ bv = .int .i64 (gt k (xs.take i)) ∧ wx = w5)
     (fun _ _ iv _ => match iv with | .int _ i => ((n : Int) - i).toNat | _ => 0)
   case atStart => exact ⟨0, by omega, rfl, rfl, rfl, rfl⟩
   case round =>
     obtain ⟨i, hi, rfl, rfl, rfl, hwr⟩ := hrel
     by_cases hin : i = n
     · have hin' : ¬ (i : Int) < n := by omega
       have et : xs.take i = xs := List.take_of_length_le (by have := HXL.out; omega)
       rw [et]
       have HWR := hid hwr
       clear et hwr
       go_wp2_with fail
       go_meet
       exact ⟨HWR.out, rfl, rfl⟩
     · have hin' : (i : Int) < n := by omega
       obtain ⟨x, hx⟩ : ∃ x, xs[i]? = some x := ⟨_, List.getElem?_eq_getElem (by have := HXL.out; omega)⟩
       have cx : wr.cell? ⟨g, i, none⟩ = some (.int .i64 x) := by rw [hwr]; exact G5.out.cell hx
       have b1 : ge k (xs.take i) ≤ 7 := Nat.le_trans List.countP_le_length (by rw [List.length_take]; omega)
       have b2 : gt k (xs.take i) ≤ 7 := Nat.le_trans List.countP_le_length (by rw [List.length_take]; omega)
       have E1 := hid (ge_tk (y := k) hx)
       have E2 := hid (gt_tk (y := k) hx)
       have HWR := hid hwr
       generalize ge k (xs.take i) = c1 at E1 b1 ⊢
       generalize gt k (xs.take i) = c2 at E2 b2 ⊢
       clear hx hwr
       by_cases h1 : k ≤ x
       · by_cases h2 : k < x
         · go_wp2
           go_roundw
           case rel => exact ⟨i + 1, by omega, by go_num, by rw [E1.out, if_pos h1]; go_num, by rw [E2.out, if_pos h2]; go_num, HWR.out⟩
           case measure => simp; omega
         · go_wp2
           go_roundw
           case rel => exact ⟨i + 1, by omega, by go_num, by rw [E1.out, if_pos h1]; go_num, by rw [E2.out, if_neg (by omega)]; rfl, HWR.out⟩
           case measure => simp; omega
       · have h2 : ¬ k < x := by omega
         go_wp2
         go_roundw
         case rel => exact ⟨i + 1, by omega, by go_num, by rw [E1.out, if_neg (by omega)]; rfl, by rw [E2.out, if_neg (by omega)]; rfl, HWR.out⟩
         case measure => simp; omega
  case rest =>
  obtain ⟨rfl, rfl, rfl⟩ := hcut
  have hge := pnt_ge F.out HXL.out
  have hgt := pnt_gt F.out HXL.out
  rw [hk.out, hm2.out] at hge hgt
  have lge : ge k xs ≤ 7 := Nat.le_trans List.countP_le_length (by have := HXL.out; omega)
  generalize ge k xs = c1 at hge lge ⊢
  generalize gt k xs = c2 at hgt ⊢
  obtain ⟨pw, hpw⟩ : ∃ p : Nat, pk who n = p := ⟨(pk who n).toNat, by have := pk_nn (c := who) (n := n) (by omega); omega⟩
  have lpw : (pw : Int) < n := by have := pk_lt (c := who) (n := n) (by omega); omega
  obtain ⟨pm, hpm⟩ : ∃ p, pk more 1000 = p := ⟨_, rfl⟩
  have lpm : pm < 1000 := by have := pk_lt (c := more) (n := 1000) (by omega); omega
  have lpm0 : 0 ≤ pm := by have := pk_nn (c := more) (n := 1000) (by omega); omega
  obtain ⟨x, hx⟩ : ∃ x, xs[pw]? = some x := ⟨_, List.getElem?_eq_getElem (by have := HXL.out; omega)⟩
  have cx := G5.out.cell hx
  have bx := HXM.out x (List.mem_of_getElem? hx)
  have HX := hid hx
  have hge := hid hge
  have hgt := hid hgt
  have HPM := hid hpm
  clear hx hpm
  go_wp2_with fail
  refine (pick_any HW.out.1 HW.out.2 (by omega) (by omega)).mono ?_
  rintro e w6 ⟨rfl, rfl⟩
  rw [hpw]
  have P2 := fun w' => @pick_any w' more 1000 HM.out.1 HM.out.2 (by omega) (by omega)
  rw [HPM.out] at P2
  have P2 := hid P2
  clear hpw
  go_upto_region 21 with fail
  go_cut [90] (fun cv wx => wx = w6.drew ∧ cv = .bool (decide (pm ≤ 9223372036854775807 - max x 0)))
  case first =>
   have ww : IntKind.i64.wrap (9223372036854775807 - max x 0) = 9223372036854775807 - max x 0 := by rw [IntKind.wrap_i64]; omega
   go_region_with (go_at_call 20; refine (P2.out _).mono ?_; rintro e w' ⟨rfl, rfl⟩)
   all_goals
     go_wp2_with fail
     go_meet
     exact ⟨rfl, rfl⟩
  case rest =>
  obtain ⟨rfl, rfl⟩ := hcut
  by_cases hc : pm ≤ 9223372036854775807 - max x 0
  · have hd : decide (pm ≤ 9223372036854775807 - max x 0) = true := decide_eq_true hc
    rw [hd]
    have ww : IntKind.i64.wrap (x + pm) = x + pm := by rw [IntKind.wrap_i64]; omega
    have fg : w6.drew.frozen? ⟨g, pw, none⟩ = false := free_at (show w6.drew.heap[g]? = _ from G5.out) pw
    have fg2 : w6.frozen? ⟨g, pw, none⟩ = false := free_at G5.out pw
    clear hd hc
    go_upto_region 22 with fail
    go_cut [91] (fun _ wx => Hid (RowI wx g (xs.set pw (x + pm))) ∧ Hid (Below w.heap.size w wx))
    case first =>
      go_region_with (go_at_call 20; refine (P2.out _).mono ?_; rintro e w' ⟨rfl, rfl⟩)
      all_goals
        have B6 := B5.out.setCell (p := ⟨g, pw, none⟩) hgw.out (.int .i64 (x + pm))
        have B6' := hid B6
        clear B6
        go_wp2_with fail
        go_meet
        have B6 := B6'.out
        exact ⟨hid (G5.out.set pw (x + pm)), hid ⟨B6.os, B6.tape, B6.output, B6.size, B6.block⟩⟩
    case rest =>
    obtain ⟨G7, B7⟩ := hcut
    clear fg fg2 cx ww P2 G5 B5
    go_wp2_with fail
    refine (Point_row F.out (show (xs.set pw (x + pm)).length = n by simpa using HXL.out) G7.out).mono ?_
    rintro e w8 ⟨rfl, hB8, _⟩
    have hup : k ≤ pnt n (xs.set pw (x + pm)) := by
      rw [← hk.out]
      exact pnt_rises F.out HXL.out (fun y hy => by rw [HX.out] at hy; cases hy; omega)
    generalize pnt n (xs.set pw (x + pm)) = k' at hup ⊢
    have B8 := hid (B7.out.trans (hB8.mono B7.out.size))
    have h1 : (m : Int) ≤ c1 := by have := hge.out; omega
    have h2 : (c2 : Int) < m := by have := hgt.out; omega
    clear G7 B7 hB8 lpm lpm0 bx lge
    go_wp2_with fail
    refine (Majority_any _).mono ?_
    rintro e w9 ⟨rfl, rfl⟩
    rw [HMM.out]
    go_wp2_with fail
    refine (Majority_any _).mono ?_
    rintro e w9 ⟨rfl, rfl⟩
    rw [HMM.out]
    go_wp2
    go_ret
    exact ⟨rfl, B8.out⟩
  · have hd : decide (pm ≤ 9223372036854775807 - max x 0) = false := decide_eq_false hc
    rw [hd]
    clear hd hc
    have G7 : Hid (RowI w6.drew g xs) := hid G5.out
    have B7 : Hid (Below w.heap.size w w6.drew) := hid B5.out.drew
    clear cx P2 G5 B5
    go_wp2_with fail
    refine (Point_row F.out HXL.out G7.out).mono ?_
    rintro e w8 ⟨rfl, hB8, _⟩
    rw [hk.out]
    have hup : k ≤ k := Int.le_refl k
    have B8 := hid (B7.out.trans (hB8.mono B7.out.size))
    have h1 : (m : Int) ≤ c1 := by have := hge.out; omega
    have h2 : (c2 : Int) < m := by have := hgt.out; omega
    clear G7 B7 hB8 lpm lpm0 bx lge
    go_wp2_with fail
    refine (Majority_any _).mono ?_
    rintro e w9 ⟨rfl, rfl⟩
    rw [HMM.out]
    go_wp2_with fail
    refine (Majority_any _).mono ?_
    rintro e w9 ⟨rfl, rfl⟩
    rw [HMM.out]
    go_wp2
    go_ret
    exact ⟨rfl, B8.out⟩
end Go.Proofs.Ytmpbdncgilahkaa

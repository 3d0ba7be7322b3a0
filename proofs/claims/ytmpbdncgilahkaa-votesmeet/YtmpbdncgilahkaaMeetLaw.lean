import Derived.Test.YtmpbdncgilahkaaMeet
namespace Go.Proofs.Ytmpbdncgilahkaa
open Go.RowKit
set_option linter.unusedVariables false

set_option maxHeartbeats 1600000 in
set_option maxRecDepth 1000000 in
theorem meet_walk {w : World} {size one two view : Int} (hs : -9223372036854775808 ≤ size ∧ size < 9223372036854775808) (ho : -9223372036854775808 ≤ one ∧ one < 9223372036854775808) (ht : -9223372036854775808 ≤ two ∧ two < 9223372036854775808) (hv : -9223372036854775808 ≤ view ∧ view < 9223372036854775808) :
    Calls Try.prog 5 #[.int .i64 size, .int .i64 one, .int .i64 two, .int .i64 view] w fun e w' => e = .returned (.bool true) ∧ Below w.heap.size w w' := by
  have HO := hid ho
  have HT := hid ht
  have HV := hid hv
  have HS := hid hs
  clear ho ht hv hs
  go_enter Try.func5, Try.ntmps5
  go_wp2_with fail
  refine shown_any.mono ?_
  rintro e w1 ⟨rfl, B1⟩
  have B1 := hid B1
  go_wp2_with fail
  refine (pick_any HS.out.1 HS.out.2 (by omega) (by omega)).mono ?_
  rintro e w2 ⟨rfl, rfl⟩
  obtain ⟨n, hn, hn3⟩ : ∃ n : Nat, 3 + 2 * pk size 3 = (n : Int) ∧ (n = 3 ∨ n = 5 ∨ n = 7) := by
    have h1 := pk_nn (c := size) (n := 3) (by omega)
    have h2 := pk_lt (c := size) (n := 3) (by omega)
    exact ⟨(3 + 2 * pk size 3).toNat, by omega, by omega⟩
  obtain ⟨r, hr⟩ : ∃ r, pk size 3 = r := ⟨_, rfl⟩
  rw [hr] at hn ⊢
  have hr0 : 0 ≤ r := by omega
  have hr2 : r ≤ 2 := by omega
  clear hr HS
  have N3 := hid hn3
  clear hn3
  go_wp2_with fail
  obtain ⟨m, f, hm, hf, hmf, hfm, hmn⟩ : ∃ m f : Nat, maj n = m ∧ fau n = f ∧ (m : Int) + f = n ∧ (f : Int) < m ∧ Hid (m = (n - 1) / 2 + 1) := by
    rcases N3.out with rfl | rfl | rfl
    · exact ⟨2, 1, by decide, by decide, by decide, by decide, hid rfl⟩
    · exact ⟨3, 2, by decide, by decide, by decide, by decide, hid rfl⟩
    · exact ⟨4, 3, by decide, by decide, by decide, by decide, hid rfl⟩
  refine (Majority_any _).mono ?_
  rintro e w3 ⟨rfl, rfl⟩
  rw [hm]
  clear hm hn hr0 hr2
  have hn7 : (n : Int) ≤ 7 := by have := N3.out; omega
  have hn1 : (3 : Int) ≤ n := by have := N3.out; omega
  have hfm' : decide ((m : Int) ≤ f) = false := decide_eq_false (by omega)
  have hfm2 : decide (m ≤ f) = false := decide_eq_false (by omega)
  have hne : ((n : Int) != n) = false := by simp
  go_wp2_with fail
  refine (Faults_any _).mono ?_
  rintro e w3 ⟨rfl, rfl⟩
  rw [hf]
  go_wp2_with fail
  refine (Faults_any _).mono ?_
  rintro e w3 ⟨rfl, rfl⟩
  rw [hf]
  clear hf hne
  obtain ⟨wa, mk1, hBa, hga⟩ := made_bools (w := w3) n (by omega)
  obtain ⟨wb, mk2, hBb, hgb⟩ := made_bools (w := wa) n (by omega)
  have hsa : w3.heap.size < wa.heap.size := (Array.getElem?_eq_some_iff.1 hga).1
  have BB := hid (B1.out.trans ((hBa.trans (hBb.mono hBa.size)).mono B1.out.size))
  have ga := (hBb.block w3.heap.size hsa).trans hga
  have gb := hgb
  have hgw := hid B1.out.size
  have hgw2 := hid (show w.heap.size ≤ wa.heap.size ∧ w3.heap.size ≠ wa.heap.size by have := B1.out.size; omega)
  generalize w3.heap.size = a at *
  generalize wa.heap.size = b at *
  obtain ⟨p1, hp1⟩ : ∃ p : Nat, pk one n = p := ⟨(pk one n).toNat, by have := pk_nn (c := one) (n := n) (by omega); omega⟩
  obtain ⟨p2, hp2⟩ : ∃ p : Nat, pk two n = p := ⟨(pk two n).toNat, by have := pk_nn (c := two) (n := n) (by omega); omega⟩
  have lp1 : p1 < n := by have := pk_lt (c := one) (n := n) (by omega); omega
  have lp2 : p2 < n := by have := pk_lt (c := two) (n := n) (by omega); omega
  rw [← amongL_zero p1 n] at ga
  rw [← amongL_zero p2 n] at gb
  have GA := hid ga
  have GB := hid gb
  have HP1 := hid hp1
  have HP2 := hid hp2
  have Lp1 := hid lp1
  have Lp2 := hid lp2
  clear ga gb hp1 hp2 lp1 lp2 B1 hBa hga hBb hgb hsa
  go_wp2
  clear mk1 mk2
  go_loopw [14] (fun kv wr => ∃ k : Nat, k ≤ m ∧ kv = .int .i64 k ∧ Hid (wr.heap[a]? = some (.cells (bools (amongL p1 n k)).toArray 4 (0, 0))) ∧ Hid (wr.heap[b]? = some (.cells (bools (amongL p2 n k)).toArray 4 (0, 0))) ∧ Hid (Below w.heap.size w wr))
    (fun kv _ => match kv with | .int _ k => ((m : Int) - k).toNat | _ => 0)
  case atStart => exact ⟨0, by omega, rfl, GA, GB, BB⟩
  case round =>
    obtain ⟨k, hk, rfl, GA, GB, BB⟩ := hrel
    by_cases hkm : k = m
    · subst hkm
      have hkk : ¬ (k : Int) < k := by omega
      go_wp2
      go_loopw [15, 16] (fun bv iv wx => ∃ i : Nat, i ≤ n ∧ iv = .int .i64 i ∧ bv = .bool (both p1 p2 n k i) ∧ wx = wr)
        (fun _ iv _ => match iv with | .int _ i => ((n : Int) - i).toNat | _ => 0)
      case atStart => exact ⟨0, by omega, rfl, rfl, rfl⟩
      case round =>
        obtain ⟨i, hi, rfl, rfl, rfl⟩ := hrel
        by_cases hin : i = n
        · have hin' : ¬ (i : Int) < n := by omega
          rw [hin, both_all N3.out hmn.out Lp1.out Lp2.out]
          rw [hin] at hin'
          obtain ⟨wl, mk3, hBl, hgl⟩ := made_bools (w := wr) n (by omega)
          obtain ⟨v, hv⟩ : ∃ v : Nat, pk view 1099511627776 = v := ⟨(pk view 1099511627776).toNat, by have := pk_nn (c := view) (n := 1099511627776) (by omega); omega⟩
          have lv : (v : Int) < 1099511627776 := by have := pk_lt (c := view) (n := 1099511627776) (by omega); omega
          have hgc := hid (Nat.le_trans BB.out.size (Nat.le_refl _))
          have BL := hid (BB.out.trans (hBl.mono BB.out.size))
          rw [← amongL_zero v n] at hgl
          have GL := hid hgl
          generalize wr.heap.size = c at *
          clear hgl hBl GA GB BB hin hi
          go_wp2_with fail
          refine (pick_any HV.out.1 HV.out.2 (by omega) (by omega)).mono ?_
          rintro e w7 ⟨rfl, rfl⟩
          rw [hv]
          clear hv mk3
          go_wp2
          go_loopw [19, 20] (fun kv _ wr => ∃ j : Nat, j ≤ n ∧ kv = .int .i64 j ∧ Hid (wr.heap[c]? = some (.cells (bools (amongL v n j)).toArray 4 (0, 0))) ∧ Hid (Below w.heap.size w wr))
            (fun kv _ _ => match kv with | .int _ j => ((n : Int) - j).toNat | _ => 0)
          case atStart => exact ⟨0, by omega, rfl, GL, BL⟩
          case round =>
            obtain ⟨j, hj, rfl, GL, BL⟩ := hrel
            by_cases hjn : j = n
            · have hjn' : ¬ (j : Int) < n := by omega
              go_wp2
              go_ret
              exact ⟨rfl, BL.out⟩
            · have hjn' : (j : Int) < n := by omega
              obtain ⟨s, hs⟩ : ∃ s, s = (v + j) % n := ⟨_, rfl⟩
              have hpr : pri n ((v : Int) + j) = s := by
                rw [pri_pos (by rcases N3.out with rfl | rfl | rfl <;> rfl) (by omega), hs]; simp
              have hsn : (s : Int) < n := by have := Nat.mod_lt (v + j) (show n > 0 by omega); omega
              have hsn' : ¬ (n : Int) ≤ s := by omega
              have cs : wr.cell? ⟨c, s, none⟩ = some (.bool false) := by
                rw [cell_at GL.out, List.getElem?_toArray, List.getElem?_map, amongL_at (by omega), hs, led_free N3.out (by omega)]; rfl
              have fs : wr.frozen? ⟨c, s, none⟩ = false := free_at GL.out s
              have HS := hid hs
              clear hs
              go_wp2_with fail
              refine (Primary_any _ _).mono ?_
              rintro e w8 ⟨rfl, rfl⟩
              rw [hpr]
              clear hpr lv
              go_wp2
              go_roundw
              case rel =>
                have g2 := heap_setCell_same (j := s) GL.out (.bool true)
                rw [List.setIfInBounds_toArray, bools_set, HS.out, amongL_set (by omega), ← HS.out] at g2
                exact ⟨j + 1, by omega, by go_num, hid g2, hid (BL.out.setCell (p := ⟨c, s, none⟩) hgc.out _)⟩
              case measure => simp; omega
        · have hin' : (i : Int) < n := by omega
          have ca : wr.cell? ⟨a, i, none⟩ = some (.bool (among p1 n k i)) := by
            rw [cell_at GA.out, List.getElem?_toArray, List.getElem?_map, amongL_at (by omega)]; rfl
          have cb : wr.cell? ⟨b, i, none⟩ = some (.bool (among p2 n k i)) := by
            rw [cell_at GB.out, List.getElem?_toArray, List.getElem?_map, amongL_at (by omega)]; rfl
          have E := hid (both_succ p1 p2 n k i)
          generalize among p1 n k i = x at ca E
          generalize among p2 n k i = y at cb E
          generalize both p1 p2 n k i = z at E ⊢
          clear GA GB
          cases z with
          | true =>
            go_wp2
            go_roundw
            case rel => exact ⟨i + 1, by omega, by go_num, by rw [E.out]; rfl, trivial⟩
            case measure => simp; omega
          | false =>
            cases x with
            | false =>
              go_wp2
              go_roundw
              case rel => exact ⟨i + 1, by omega, by go_num, by rw [E.out]; rfl, trivial⟩
              case measure => simp; omega
            | true =>
              go_wp2
              go_roundw
              case rel => exact ⟨i + 1, by omega, by go_num, by rw [E.out]; simp, trivial⟩
              case measure => simp; omega
    · have hkm' : (k : Int) < m := by omega
      have P1 := fun w' => @pick_any w' one n HO.out.1 HO.out.2 (by omega) (by omega)
      rw [HP1.out] at P1
      have lp1 : (p1 : Int) < n := by have := Lp1.out; omega
      have lp2 : (p2 : Int) < n := by have := Lp2.out; omega
      have hnz : ¬ (n : Int) = 0 := by omega
      have hnz' : ¬ n = 0 := by omega
      obtain ⟨s, hs⟩ : ∃ s, s = (p1 + k) % n := ⟨_, rfl⟩
      have hmt : ((p1 : Int) + k).tmod n = (s : Int) := by rw [hs, Int.tmod_eq_emod_of_nonneg (by omega)]; simp
      have hsn : (s : Int) < n := by have := Nat.mod_lt (p1 + k) (show n > 0 by omega); omega
      have hmt2 : ((p1 : Int) + k) % n = (s : Int) := by rw [hs]; simp
      have cs : wr.drew.cell? ⟨a, s, none⟩ = some (.bool (among p1 n k s)) := by
        show wr.cell? ⟨a, s, none⟩ = _
        rw [cell_at GA.out, List.getElem?_toArray, List.getElem?_map, amongL_at (by omega)]; rfl
      have fs : wr.drew.frozen? ⟨a, s, none⟩ = false := free_at (show wr.drew.heap[a]? = _ from GA.out) s
      have e1 : IntKind.i64.wrap 1 = 1 := by decide
      have e2 : IntKind.i64.wrap (k : Int) = k := by rw [IntKind.wrap_i64]; omega
      have e3 : IntKind.i64.wrap ((p1 : Int) + k) = (p1 : Int) + k := by rw [IntKind.wrap_i64]; omega
      have HS := hid hs
      have P1 := hid P1
      clear hs
      go_wp2_with fail
      go_region_law (go_simp; go_at_call 20; first | (with_reducible refine (P1.out _).mono ?_; rintro e w' ⟨rfl, rfl⟩; go_simp) | (with_reducible refine (pick_one _).mono ?_; rintro e w' ⟨rfl, rfl⟩; go_simp))
      have GA5 : (wr.setCell ⟨a, s, none⟩ (.bool true)).drew.heap[a]? = some (.cells (bools (amongL p1 n (k + 1))).toArray 4 (0, 0)) := by
        have := heap_setCell_same (j := s) GA.out (.bool true)
        rw [List.setIfInBounds_toArray, bools_set, HS.out, amongL_set (by omega), ← HS.out] at this
        exact this
      have GB5 : (wr.setCell ⟨a, s, none⟩ (.bool true)).drew.heap[b]? = some (.cells (bools (amongL p2 n k)).toArray 4 (0, 0)) :=
        (Below.heap_setCell wr ⟨a, s, none⟩ (.bool true) b (fun e => hgw2.out.2 e.symm)).trans GB.out
      have BB5 : Below w.heap.size w (wr.setCell ⟨a, s, none⟩ (.bool true)).drew := (BB.out.setCell (p := ⟨a, s, none⟩) hgw.out _).drew
      generalize (wr.setCell ⟨a, s, none⟩ (.bool true)).drew = w5 at GA5 GB5 BB5 ⊢
      clear cs fs HS hmt hmt2 hsn P1 e1 e2 e3 GA GB BB
      obtain ⟨s, hs⟩ : ∃ s, s = (p2 + k) % n := ⟨_, rfl⟩
      have hmt : ((p2 : Int) + k).tmod n = (s : Int) := by rw [hs, Int.tmod_eq_emod_of_nonneg (by omega)]; simp
      have hsn : (s : Int) < n := by have := Nat.mod_lt (p2 + k) (show n > 0 by omega); omega
      have hmt2 : ((p2 : Int) + k) % n = (s : Int) := by rw [hs]; simp
      have cs : w5.cell? ⟨b, s, none⟩ = some (.bool (among p2 n k s)) := by
        rw [cell_at GB5, List.getElem?_toArray, List.getElem?_map, amongL_at (by omega)]; rfl
      have fs : w5.frozen? ⟨b, s, none⟩ = false := free_at GB5 s
      have GA := hid GA5
      have GB := hid GB5
      have BB := hid BB5
      have HS := hid hs
      clear hs GA5 GB5 BB5
      go_wp2_with fail
      refine (pick_any HT.out.1 HT.out.2 (by omega) (by omega)).mono ?_
      rintro e w6 ⟨rfl, rfl⟩
      rw [HP2.out]
      go_wp2
      go_roundw
      case rel =>
        have g1 := hid ((Below.heap_setCell w6 ⟨b, s, none⟩ (.bool true) a hgw2.out.2).trans GA.out)
        have g2 := heap_setCell_same (j := s) GB.out (.bool true)
        rw [List.setIfInBounds_toArray, bools_set, HS.out, amongL_set (by omega), ← HS.out] at g2
        exact ⟨k + 1, by omega, by go_num, g1, hid g2, hid (BB.out.setCell (p := ⟨b, s, none⟩) hgw2.out.1 _)⟩
      case measure => simp; omega
end Go.Proofs.Ytmpbdncgilahkaa

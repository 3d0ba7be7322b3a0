import Derived.Test.YtgmjjopfpenceaaDoorNum
namespace Go.Proofs.YtgmjjopfpenceaaDoor
open Go.RowKit
set_option linter.unusedVariables false

theorem drop_cons {l : List UInt8} {i : Nat} (hi : i < l.length) : l.drop i = l.getD i 0 :: l.drop (i + 1) := by
  rw [List.drop_eq_getElem_cons hi]
  simp [List.getD, hi]

set_option maxHeartbeats 1600000 in
set_option maxRecDepth 1000000 in
theorem rNumber_any {l : List UInt8} {w : World} (hl : l.length ≤ 140737488355328) :
    Calls Tryd.prog 7 #[.string ⟨l.toArray⟩] w fun e w' => e = .returned (numA l) ∧ w' = w := by
  have hz : (⟨l.toArray⟩ : ByteArray).size = l.length := by simp [ByteArray.size]
  have IX : Hid (∀ k, k < l.length → ∀ W, (Instr.index 9 (.string ⟨l.toArray⟩) (.int .i64 (k : Int))).run Tryd.prog W = .ok (.int .u8 ((l.getD k 0).toNat : Int)) W) := fun k hk W => idx_at hk W
  by_cases h0 : l = []
  · subst h0
    have e1 : numA [] = .tuple #[.int .i64 0, .bool false] := rfl
    rw [e1]
    clear e1 IX
    rw [List.length_nil] at hz
    generalize ByteArray.mk ([] : List UInt8).toArray = L at *
    go_enter Tryd.func7, Tryd.ntmps7
    go_wp2
    go_ret2
    exact ⟨rfl, rfl⟩
  · have hpos : 0 < l.length := List.length_pos_iff.2 h0
    have hd0 : l.head? = some (l.getD 0 0) := by
      cases l with
      | nil => exact absurd rfl h0
      | cons a b => rfl
    have ix0 : ∀ W, (Instr.index 9 (.string ⟨l.toArray⟩) (.int .i64 0)).run Tryd.prog W = .ok (.int .u8 ((l.getD 0 0).toNat : Int)) W := IX.out 0 hpos
    have n0 : ((l.length : Int) == 0) = false := by simp; exact h0
    by_cases hz0 : 1 < l.length ∧ (l.getD 0 0).toNat = 48
    · obtain ⟨h1, h48⟩ := hz0
      have e1 : numA l = .tuple #[.int .i64 0, .bool false] := by
        have : numW l = none := by
          unfold numW
          rw [if_pos (Or.inr ⟨h1, by rw [hd0]; congr 1; exact UInt8.toNat_inj.1 h48⟩)]
        unfold numA; rw [this]; rfl
      rw [e1]
      rw [h48] at ix0
      have h1' : (1 : Int) < (l.length : Int) := by omega
      clear e1 IX hd0 h48 h0
      generalize ByteArray.mk l.toArray = L at *
      generalize l.length = n at *
      go_enter Tryd.func7, Tryd.ntmps7
      go_wp2
      go_ret2
      exact ⟨rfl, rfl⟩
    · have hnw : numW l = decN 0 (l.drop 0) := by
        unfold numW
        rw [if_neg, List.drop_zero]
        rintro (e | ⟨h1, h2⟩)
        · exact h0 e
        · rw [hd0] at h2
          simp only [Option.some.injEq] at h2
          exact hz0 ⟨h1, by rw [h2]; rfl⟩
      generalize hA : numA l = AN
      have HA : Hid (AN = .tuple #[.int .i64 (((decN 0 (l.drop 0)).getD 0 : Nat) : Int), .bool (decN 0 (l.drop 0)).isSome]) := hid (by rw [← hA]; unfold numA; rw [hnw])
      clear hA hnw hd0 h0
      obtain ⟨D, hD⟩ : ∃ D, D = decN 0 (l.drop 0) := ⟨_, rfl⟩
      rw [← hD] at HA
      have HD := hid hD
      clear hD
      generalize hx0 : (l.getD 0 0).toNat = x0 at *
      clear hx0
      generalize ByteArray.mk l.toArray = L at *
      generalize hn : l.length = n at *
      have HN := hid hn
      clear hn
      by_cases h1 : 1 < n
      · have h1' : (1 : Int) < (n : Int) := by omega
        have x48 : ((x0 : Int) == 48) = false := by
          have : x0 ≠ 48 := fun e => hz0 ⟨h1, e⟩
          simp; omega
        clear hz0
        go_enter Tryd.func7, Tryd.ntmps7
        go_wp2
        go_loopw [4, 5] (fun nv iv wr => ∃ (i a : Nat), i ≤ n ∧ a ≤ 9223372036854775807 ∧ iv = .int .i64 (i : Int) ∧ nv = .int .i64 (a : Int) ∧ wr = w ∧ Hid (D = decN a (l.drop i))) (fun _ iv _ => n - (intOf iv).toNat)
        case atStart => exact ⟨0, 0, by omega, by omega, rfl, rfl, rfl, HD⟩
        case round =>
          obtain ⟨i, a, hi, ha, rfl, rfl, rfl, hR⟩ := hrel
          clear HD
          by_cases hlt : i < n
          · have hlt' : (i : Int) < (n : Int) := by omega
            have ix := IX.out i hlt
            have dc := hid (drop_cons (l := l) (i := i) (by rw [HN.out]; exact hlt))
            generalize hb : l.getD i 0 = b at *
            clear hb
            have hb8 := b.toNat_lt
            by_cases hdg : 48 ≤ b.toNat ∧ b.toNat ≤ 57
            · have d1 : ¬ (b.toNat : Int) < 48 := by omega
              have d2 : ¬ (57 : Int) < (b.toNat : Int) := by omega
              by_cases hov : 10 * a + (b.toNat - 48) ≤ 9223372036854775807
              · have nx : Hid (D = decN (10 * a + (b.toNat - 48)) (l.drop (i + 1))) := hid (by rw [hR.out, dc.out, decN, if_pos hdg, if_pos hov])
                have hq : ¬ ((9223372036854775807 : Int) - ((b.toNat : Int) - 48)) / 10 < (a : Int) := by omega
                generalize b.toNat = x at *
                clear dc hR
                go_wp2
                go_roundw
                case rel => exact ⟨i + 1, 10 * a + (x - 48), by omega, by omega, by go_num, by congr 1; omega, trivial, nx⟩
                case measure => simp [intOf]; omega
              · have fin : Hid (D = none) := hid (by rw [hR.out, dc.out, decN, if_pos hdg, if_neg hov])
                have hq : ((9223372036854775807 : Int) - ((b.toNat : Int) - 48)) / 10 < (a : Int) := by omega
                generalize b.toNat = x at *
                clear dc hR hov
                go_wp2
                go_ret2
                exact ⟨by rw [HA.out, fin.out]; rfl, rfl⟩
            · have fin : Hid (D = none) := hid (by rw [hR.out, dc.out, decN, if_neg hdg])
              clear dc hR
              by_cases d1 : (b.toNat : Int) < 48
              · clear hdg
                go_wp2
                go_ret2
                exact ⟨by rw [HA.out, fin.out]; rfl, rfl⟩
              · have d2 : (57 : Int) < (b.toNat : Int) := by omega
                clear hdg
                go_wp2
                go_ret2
                exact ⟨by rw [HA.out, fin.out]; rfl, rfl⟩
          · have hlt' : ¬ (i : Int) < (n : Int) := by omega
            have fin : Hid (D = some a) := hid (by rw [hR.out, List.drop_eq_nil_of_le (by rw [HN.out]; omega), decN])
            clear hR
            go_wp2
            go_ret2
            exact ⟨by rw [HA.out, fin.out]; rfl, rfl⟩
      · have h1' : ¬ (1 : Int) < (n : Int) := by omega
        clear hz0
        go_enter Tryd.func7, Tryd.ntmps7
        go_wp2
        go_loopw [4, 5] (fun nv iv wr => ∃ (i a : Nat), i ≤ n ∧ a ≤ 9223372036854775807 ∧ iv = .int .i64 (i : Int) ∧ nv = .int .i64 (a : Int) ∧ wr = w ∧ Hid (D = decN a (l.drop i))) (fun _ iv _ => n - (intOf iv).toNat)
        case atStart => exact ⟨0, 0, by omega, by omega, rfl, rfl, rfl, HD⟩
        case round =>
          obtain ⟨i, a, hi, ha, rfl, rfl, rfl, hR⟩ := hrel
          clear HD
          by_cases hlt : i < n
          · have hlt' : (i : Int) < (n : Int) := by omega
            have ix := IX.out i hlt
            have dc := hid (drop_cons (l := l) (i := i) (by rw [HN.out]; exact hlt))
            generalize hb : l.getD i 0 = b at *
            clear hb
            have hb8 := b.toNat_lt
            by_cases hdg : 48 ≤ b.toNat ∧ b.toNat ≤ 57
            · have d1 : ¬ (b.toNat : Int) < 48 := by omega
              have d2 : ¬ (57 : Int) < (b.toNat : Int) := by omega
              by_cases hov : 10 * a + (b.toNat - 48) ≤ 9223372036854775807
              · have nx : Hid (D = decN (10 * a + (b.toNat - 48)) (l.drop (i + 1))) := hid (by rw [hR.out, dc.out, decN, if_pos hdg, if_pos hov])
                have hq : ¬ ((9223372036854775807 : Int) - ((b.toNat : Int) - 48)) / 10 < (a : Int) := by omega
                generalize b.toNat = x at *
                clear dc hR
                go_wp2
                go_roundw
                case rel => exact ⟨i + 1, 10 * a + (x - 48), by omega, by omega, by go_num, by congr 1; omega, trivial, nx⟩
                case measure => simp [intOf]; omega
              · have fin : Hid (D = none) := hid (by rw [hR.out, dc.out, decN, if_pos hdg, if_neg hov])
                have hq : ((9223372036854775807 : Int) - ((b.toNat : Int) - 48)) / 10 < (a : Int) := by omega
                generalize b.toNat = x at *
                clear dc hR hov
                go_wp2
                go_ret2
                exact ⟨by rw [HA.out, fin.out]; rfl, rfl⟩
            · have fin : Hid (D = none) := hid (by rw [hR.out, dc.out, decN, if_neg hdg])
              clear dc hR
              by_cases d1 : (b.toNat : Int) < 48
              · clear hdg
                go_wp2
                go_ret2
                exact ⟨by rw [HA.out, fin.out]; rfl, rfl⟩
              · have d2 : (57 : Int) < (b.toNat : Int) := by omega
                clear hdg
                go_wp2
                go_ret2
                exact ⟨by rw [HA.out, fin.out]; rfl, rfl⟩
          · have hlt' : ¬ (i : Int) < (n : Int) := by omega
            have fin : Hid (D = some a) := hid (by rw [hR.out, List.drop_eq_nil_of_le (by rw [HN.out]; omega), decN])
            clear hR
            go_wp2
            go_ret2
            exact ⟨by rw [HA.out, fin.out]; rfl, rfl⟩
end Go.Proofs.YtgmjjopfpenceaaDoor

import Derived.Test.YtphcfkfdkaphbaaArmedF
namespace Go.Proofs.Ytphcfkfdkaphbaa
open Go.RowKit
set_option linter.unusedVariables false

theorem from26 (n : Int) (w : World) : (callFunc 26 #[.int .u64 n]).run Try.prog w = .ok (.value (.float .f64 n.toNat)) w := by kernel_rfl
theorem from26' (n : Nat) (w : World) : (callFunc 26 #[.int .u64 (n : Int)]).run Try.prog w = .ok (.value (.float .f64 n)) w := from26 n w

theorem neg67 (n : Nat) (w : World) : (Op.unary .neg (.float .f64 n)).run Try.prog w = .ok (.float .f64 (Op.negFloat .f64 n)) w := rfl

set_option maxHeartbeats 4000000 in
set_option maxRecDepth 1000000 in
theorem noName_walk {w : World} {k m : Int} (hk : 0 ≤ k ∧ k < 18446744073709551616) : Calls Try.prog 6 #[.int .u64 k, .int .i64 m] w fun e w' => e = .returned (.bool true) ∧ Below w.heap.size w w' := by
  obtain ⟨n, rfl⟩ : ∃ n : Nat, k = n := ⟨k.toNat, by omega⟩
  have hn : n < 18446744073709551616 := by omega
  have hf := from26' n
  have hneg := neg67 n
  clear hk
  go_enter Try.func6, Try.ntmps6
  go_wp2_with fail
  refine NewF.mono ?_
  rintro e w1 ⟨P, b, rfl, h1⟩
  have H1 := hid h1
  clear h1
  cases he : feq n n with
  | false =>
    have hor : ¬ FloatKind.f64.format.order n n = some .eq := fun e => by simp [feq, e] at he
    have hor' : (FloatKind.f64.format.order n n != some .eq) = true := by simpa using hor
    have HE := hid he
    clear he
    by_cases hm1 : m < 1
    · go_wp2_with fail
      refine (ArmF_name HE.out).mono ?_
      rintro e w2 ⟨rfl, rfl⟩
      go_wp2_with fail
      refine (look_left H1.out (look0 H1.out.map n)).mono ?_
      rintro e w3 ⟨rfl, rfl⟩
      go_wp2_with fail
      refine (CancelF H1.out (look0 H1.out.map n) (del0 H1.out.map n)).mono ?_
      rintro e w4 ⟨rfl, h4⟩
      have H4 := hid h4
      clear h4
      go_wp2_with fail
      refine (ArmedF H4.out).mono ?_
      rintro e w5 ⟨rfl, hb5⟩
      go_wp2
      go_ret
      exact ⟨rfl, hb5⟩
    · by_cases hm2 : 1024 < m
      · go_wp2_with fail
        refine (ArmF_name HE.out).mono ?_
        rintro e w2 ⟨rfl, rfl⟩
        go_wp2_with fail
        refine (look_left H1.out (look0 H1.out.map n)).mono ?_
        rintro e w3 ⟨rfl, rfl⟩
        go_wp2_with fail
        refine (CancelF H1.out (look0 H1.out.map n) (del0 H1.out.map n)).mono ?_
        rintro e w4 ⟨rfl, h4⟩
        have H4 := hid h4
        clear h4
        go_wp2_with fail
        refine (ArmedF H4.out).mono ?_
        rintro e w5 ⟨rfl, hb5⟩
        go_wp2
        go_ret
        exact ⟨rfl, hb5⟩
      · go_wp2_with fail
        refine (ArmF_name HE.out).mono ?_
        rintro e w2 ⟨rfl, rfl⟩
        go_wp2_with fail
        refine (look_left H1.out (look0 H1.out.map n)).mono ?_
        rintro e w3 ⟨rfl, rfl⟩
        go_wp2_with fail
        refine (CancelF H1.out (look0 H1.out.map n) (del0 H1.out.map n)).mono ?_
        rintro e w4 ⟨rfl, h4⟩
        have H4 := hid h4
        clear h4
        go_wp2_with fail
        refine (ArmedF H4.out).mono ?_
        rintro e w5 ⟨rfl, hb5⟩
        go_wp2
        go_ret
        exact ⟨rfl, hb5⟩
  | true =>
    have hor : FloatKind.f64.format.order n n = some .eq := by simpa using he
    have HE := hid he
    clear he
    by_cases hm1 : m < 1
    · go_wp2_with fail
      refine (ArmF_ticks HE.out (.inl hm1)).mono ?_
      rintro e w2 ⟨rfl, rfl⟩
      go_wp2_with fail
      refine (look_left H1.out (look0 H1.out.map n)).mono ?_
      rintro e w3 ⟨rfl, rfl⟩
      go_wp2_with fail
      refine (CancelF H1.out (look0 H1.out.map n) (del0 H1.out.map n)).mono ?_
      rintro e w4 ⟨rfl, h4⟩
      have H4 := hid h4
      clear h4
      go_wp2_with fail
      refine (ArmedF H4.out).mono ?_
      rintro e w5 ⟨rfl, hb5⟩
      go_wp2
      go_ret
      exact ⟨rfl, hb5⟩
    · by_cases hm2 : 1024 < m
      · go_wp2_with fail
        refine (ArmF_ticks HE.out (.inr hm2)).mono ?_
        rintro e w2 ⟨rfl, rfl⟩
        go_wp2_with fail
        refine (look_left H1.out (look0 H1.out.map n)).mono ?_
        rintro e w3 ⟨rfl, rfl⟩
        go_wp2_with fail
        refine (CancelF H1.out (look0 H1.out.map n) (del0 H1.out.map n)).mono ?_
        rintro e w4 ⟨rfl, h4⟩
        have H4 := hid h4
        clear h4
        go_wp2_with fail
        refine (ArmedF H4.out).mono ?_
        rintro e w5 ⟨rfl, hb5⟩
        go_wp2
        go_ret
        exact ⟨rfl, hb5⟩
      · cases hz0 : feq n 0 with
        | true =>
          have hz : FloatKind.f64.format.order n 0 = some .eq := by simpa using hz0
          have HZ := hid hz0
          clear hz0
          go_wp2_with fail
          refine (ArmF_ok H1.out HE.out (by omega) (by omega)).mono ?_
          rintro e w2 ⟨rfl, h2⟩
          have H2 := hid h2
          clear h2 H1
          go_wp2_with fail
          refine (look_left H2.out (look1 H2.out.map n HE.out)).mono ?_
          rintro e w3 ⟨rfl, rfl⟩
          go_wp2_with fail
          refine (look_left H2.out (look1 H2.out.map _ (fneg hn HZ.out))).mono ?_
          rintro e w4 ⟨rfl, rfl⟩
          go_wp2_with fail
          refine (CancelF H2.out (look1 H2.out.map n HE.out) (del1 H2.out.map n HE.out)).mono ?_
          rintro e w5 ⟨rfl, h5⟩
          have H5 := hid h5
          clear h5
          go_wp2_with fail
          refine (ArmedF H5.out).mono ?_
          rintro e w6 ⟨rfl, hb6⟩
          go_wp2
          go_ret
          exact ⟨rfl, hb6⟩
        | false =>
          have hz : ¬ FloatKind.f64.format.order n 0 = some .eq := fun e => by simp [feq, e] at hz0
          have hz' : (FloatKind.f64.format.order n 0 == some .eq) = false := hz0
          have HZ := hid hz0
          clear hz0
          go_wp2_with fail
          refine (ArmF_ok H1.out HE.out (by omega) (by omega)).mono ?_
          rintro e w2 ⟨rfl, h2⟩
          have H2 := hid h2
          clear h2 H1
          go_wp2_with fail
          refine (look_left H2.out (look1 H2.out.map n HE.out)).mono ?_
          rintro e w3 ⟨rfl, rfl⟩
          go_wp2_with fail
          refine (CancelF H2.out (look1 H2.out.map n HE.out) (del1 H2.out.map n HE.out)).mono ?_
          rintro e w5 ⟨rfl, h5⟩
          have H5 := hid h5
          clear h5
          go_wp2_with fail
          refine (ArmedF H5.out).mono ?_
          rintro e w6 ⟨rfl, hb6⟩
          go_wp2
          go_ret
          exact ⟨rfl, hb6⟩
end Go.Proofs.Ytphcfkfdkaphbaa

import Derived.Test.YtkaigmoeagjjgaaBas
import Derived.Laws.Externs
namespace Go.Proofs.Ytkaigmoeagjjgaa
open Go.RowKit
set_option linter.unusedVariables false

theorem check_any {w : World} {ao : Option Addr} {n c : Nat} : Calls Try.prog 27 #[.slice ao n c] w fun e w' => e = .returned (.int .i64 (if 4096 < n then 220 else if n = 0 then 222 else 0)) ∧ w' = w := by
  obtain ⟨R, hR⟩ : ∃ R : Int, Hid (R = if 4096 < n then 220 else if n = 0 then 222 else 0) := ⟨_, rfl⟩
  rw [← hR.out]
  by_cases h1 : 4096 < n
  · have e : R = 220 := by rw [hR.out, if_pos h1]
    subst e; clear hR
    go_enter Try.func27, Try.ntmps27
    go_wp2
    go_ret
    exact ⟨rfl, rfl⟩
  · by_cases h2 : n = 0
    · have e : R = 222 := by rw [hR.out, if_neg h1, if_pos h2]
      subst e; clear hR; subst h2
      go_enter Try.func27, Try.ntmps27
      go_wp2
      go_ret
      exact ⟨rfl, rfl⟩
    · have e : R = 0 := by rw [hR.out, if_neg h1, if_neg h2]
      subst e; clear hR
      go_enter Try.func27, Try.ntmps27
      go_wp2
      go_ret
      exact ⟨rfl, rfl⟩

set_option maxHeartbeats 1000000 in
theorem meanOf_any {w : World} {v : Value} {l : List Int} (h : IntsAt w v l) (hs : Sm l) (h0 : 0 < l.length) (hn : l.length ≤ 4096) : Calls Try.prog 28 #[v] w fun e w' => e = .returned (.float .f64 (meanF l)) ∧ w' = w := by
  obtain ⟨ao, c, rfl⟩ := h.form
  obtain ⟨hc, _⟩ := h.cap
  have hd := hid (div_some (sumF_nn l hs) h0 hn).1
  have hH := hid h
  have hS := hid hs
  clear h hs
  go_enter Try.func28, Try.ntmps28
  go_wp2
  go_loopw [3, 8] (fun s i wr => ∃ k : Nat, k ≤ l.length ∧ s = .float .f64 (sumF (l.take k)) ∧ i = .int .i64 k ∧ wr = w) (fun _ i _ => l.length - (intOf i).toNat)
  case atStart => exact ⟨0, Nat.zero_le _, rfl, rfl, rfl⟩
  case round =>
    obtain ⟨k, hk, rfl, rfl, rfl⟩ := hrel
    by_cases hlt : k < l.length
    · obtain ⟨x, hx⟩ : ∃ x, l[k]? = some x := ⟨_, List.getElem?_eq_getElem hlt⟩
      obtain ⟨b, off, rfl, hb, hcx⟩ := hH.out.at hx
      have ha := (add_some (sumF_nn _ (hS.out.take k)) (fx_fn (hS.out.abs (List.mem_of_getElem? hx)))).1
      have hsn := hid (show sumF (l.take (k + 1)) = fadd (sumF (l.take k)) (Flt.fx x) by rw [take_snoc hx, sumF_snoc])
      have r1 : ∀ W, (binOp .add 25 (.float .f64 (sumF (l.take k))) (.float .f64 (floatOfInt .f64 x))).run Try.prog W = .ok (.float .f64 (fadd (sumF (l.take k)) (Flt.fx x))) W := fun W => run_fadd W 25 ha
      generalize sumF (l.take k) = S at hsn r1 ⊢
      clear ha hx
      go_wp2
      go_roundw
      case rel => exact ⟨k + 1, by omega, by rw [hsn.out], rfl, trivial⟩
      case measure => simp [intOf]; omega
    · obtain rfl : k = l.length := by omega
      rw [List.take_length]
      have r1 : ∀ W, (binOp .quo 25 (.float .f64 (sumF l)) (.float .f64 (floatOfInt .f64 (l.length : Int)))).run Try.prog W = .ok (.float .f64 (meanF l)) W := fun W => run_fdiv W 25 hd.out
      go_wp2
      go_ret
      exact ⟨rfl, rfl⟩

theorem Try.fn44 : Extern.findNext Try.f44 = none := by kernel_rfl
theorem Try.ex44 : Extern.find Try.f44 = some Extern.MathSqrt.sqrt := by kernel_rfl
theorem sqrt_run {w : World} {x r : Nat} (h : Ieee.double.sqrt x = some r) : Calls Try.prog 32 #[.float .f64 x] w fun e w' => e = .returned (.float .f64 r) ∧ w' = w := by
  have hc : ∀ W, (callFunc 44 #[.float .f64 x]).run Try.prog W = .ok (.value (.float .f64 r)) W := fun W => by
    rw [run_callFunc_extern Try.func44 (by kernel_rfl) (by kernel_rfl) Try.fn44 Try.ex44]
    have e : Extern.MathSqrt.sqrt #[.float .f64 x] = (match FloatKind.f64.format.sqrt x with | some r => pure (.float .f64 r) | none => (do pure (.float .f64 (← choose (.nanBits .f64 x x))))) := rfl
    rw [e, show FloatKind.f64.format.sqrt x = some r from h]
    rfl
  go_enter Try.func32, Try.ntmps32
  go_wp2
  go_ret
  exact ⟨rfl, rfl⟩

set_option maxHeartbeats 1000000 in
theorem deviation_any {w : World} {v : Value} {l : List Int} {m : Nat} (h : IntsAt w v l) (hs : Sm l) (h0 : 0 < l.length) (hn : l.length ≤ 4096) (hm : Flt.NN m) : Calls Try.prog 31 #[v, .float .f64 m] w fun e w' => e = .returned (.float .f64 (devF l m)) ∧ w' = w := by
  obtain ⟨ao, c, rfl⟩ := h.form
  obtain ⟨hc, _⟩ := h.cap
  have hp := devS_pos l m hm hs
  have hd := hid (div_some hp.nn h0 hn).1
  have hq := hid (sqr_some ((div_some hp.nn h0 hn).2.2 hp)).1
  have hH := hid h
  have hS := hid hs
  have hM := hid hm
  clear h hs hp hm
  go_enter Try.func31, Try.ntmps31
  go_wp2
  go_loopw [5, 11] (fun s i wr => ∃ k : Nat, k ≤ l.length ∧ s = .float .f64 (devS (l.take k) m) ∧ i = .int .i64 k ∧ wr = w) (fun _ i _ => l.length - (intOf i).toNat)
  case atStart => exact ⟨0, Nat.zero_le _, rfl, rfl, rfl⟩
  case round =>
    obtain ⟨k, hk, rfl, rfl, rfl⟩ := hrel
    by_cases hlt : k < l.length
    · obtain ⟨x, hx⟩ : ∃ x, l[k]? = some x := ⟨_, List.getElem?_eq_getElem hlt⟩
      obtain ⟨b, off, rfl, hb, hcx⟩ := hH.out.at hx
      have hsb := sub_some (fx_fn (hS.out.abs (List.mem_of_getElem? hx))) hM.out
      have hsq := sq_some hsb.2
      have ha := addp_some (devS_pos _ m hM.out (hS.out.take k)) hsq.2
      have hsn := hid (show devS (l.take (k + 1)) m = _ by rw [take_snoc hx, devS_snoc])
      have r0 : ∀ W, (binOp .sub 25 (.float .f64 (floatOfInt .f64 x)) (.float .f64 m)).run Try.prog W = .ok (.float .f64 (fsub (Flt.fx x) m)) W := fun W => run_fsub W 25 hsb.1
      generalize fsub (Flt.fx x) m = D at hsq ha hsn r0
      have r1 : ∀ W, (binOp .mul 25 (.float .f64 D) (.float .f64 D)).run Try.prog W = .ok (.float .f64 (fmul D D)) W := fun W => run_fmul W 25 hsq.1
      have r2 : ∀ W, (binOp .add 25 (.float .f64 (devS (l.take k) m)) (.float .f64 (fmul D D))).run Try.prog W = .ok (.float .f64 (fadd (devS (l.take k) m) (fmul D D))) W := fun W => run_fadd W 25 ha.1
      generalize devS (l.take k) m = S at hsn r2 ⊢
      clear ha hx hsb hsq
      go_wp2
      go_roundw
      case rel => exact ⟨k + 1, by omega, by rw [hsn.out], rfl, trivial⟩
      case measure => simp [intOf]; omega
    · obtain rfl : k = l.length := by omega
      rw [List.take_length]
      have r1 : ∀ W, (binOp .quo 25 (.float .f64 (devS l m)) (.float .f64 (floatOfInt .f64 (l.length : Int)))).run Try.prog W = .ok (.float .f64 (fdiv (devS l m) (Flt.fx l.length))) W := fun W => run_fdiv W 25 hd.out
      have sq := fun W => sqrt_run (w := W) hq.out
      clear hq hd
      go_wp2_with fail
      refine (sq _).mono ?_
      rintro e w1 ⟨rfl, rfl⟩
      go_wp2
      go_ret
      exact ⟨rfl, rfl⟩

/-- is it a part? -/
def isP (x : Nat) : Bool := Ieee.double.order x 0 == some .gt && (Ieee.double.order x 4607182418800017408 == some .lt || Ieee.double.order x 4607182418800017408 == some .eq)
theorem isPart_any {w : World} {x : Nat} : Calls Try.prog 33 #[.float .f64 x] w fun e w' => e = .returned (.bool (isP x)) ∧ w' = w := by
  obtain ⟨R, hR⟩ : ∃ R, Hid (R = isP x) := ⟨_, rfl⟩
  rw [← hR.out]
  by_cases ha : FloatKind.f64.format.order x 0 = some .gt
  · have e : R = (FloatKind.f64.format.order x 4607182418800017408 == some .lt || FloatKind.f64.format.order x 4607182418800017408 == some .eq) := by
      rw [hR.out]
      show (FloatKind.f64.format.order x 0 == some .gt && _) = _
      rw [ha]; rfl
    rw [e]
    clear e hR
    go_enter Try.func33, Try.ntmps33
    go_wp2
    go_ret
    exact ⟨rfl, rfl⟩
  · have e : R = false := by
      rw [hR.out]
      show (FloatKind.f64.format.order x 0 == some .gt && _) = _
      rw [show (FloatKind.f64.format.order x 0 == some .gt) = false by simpa using ha]; rfl
    subst e
    clear hR
    go_enter Try.func33, Try.ntmps33
    go_wp2
    go_ret
    exact ⟨rfl, rfl⟩
end Go.Proofs.Ytkaigmoeagjjgaa

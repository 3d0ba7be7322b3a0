import Derived.Test.YtdhkdniddjnigaaGreatDoorPx27
import Derived.Test.YtdhkdniddjnigaaGreatDoorPx28
import Derived.Test.YtdhkdniddjnigaaGreatDoorRm5
namespace Go.Proofs.YtdhkdniddjnigaaGreatDoor
open Go.RowKit
set_option linter.unusedVariables false

/-- The program's Check of any message that came in. -/
theorem check_of {w0 : World} (n : Int) (hn : n = 3 ∨ n = 5 ∨ n = 7) (mm : Ms) {li : List ByteArray} {le lx : List Ent} {ls : List Sh} (hT : Tab w0) (hF : Fld w0) (hl : Ml w0 mm li le ls lx) :
    ∀ W, Below w0.heap.size w0 W → Calls Tryz.prog 56 #[.int .i64 n, .agg mm.cells.toArray] W fun e w' => e = .returned (.int .i64 (chkM n mm (fldE mm.k.toNat mm.h (mm.may li le ls lx) mm.nil))) ∧ Below W.heap.size W w' := fun W hb =>
  checkM_any (w := W) n (by omega) (by omega) mm _ (fun hk W' b hW hM => fields34 ((hT.below hb).below hW) ((hF.below hb).below hW) hM ((hl.later hb).later hW) (k := mm.k.toNat) (by omega) (by omega))
/-- The reply that a step makes. -/
def rpR (f v n q : Int) : Ms := ⟨2, f, 0, v, n, 0, 0, 0, q, false, 0, ⟨#[]⟩, ⟨#[]⟩, 0, 0, 0, 0, none, 0, 0, none, 0, 0, 0, 0, none, 0, 0, none, 0, 0⟩
theorem rpR_ml (f v n q : Int) (W : World) : Ml W (rpR f v n q) [] [] [] [] :=
  ⟨⟨none, 0, rfl, Nat.le_refl _, Or.inl rfl⟩, fun i x hx => by simp at hx, fun i x hx => by simp at hx, fun i x hx => by simp at hx, rfl, rfl, rfl, rfl, Nat.zero_le _, Nat.zero_le _, Nat.zero_le _, Nat.zero_le _⟩
theorem rpR_E {N f v n q : Int} (hN : N = 3 ∨ N = 5 ∨ N = 7) (hf : 0 ≤ f ∧ f < N) (hv : 0 ≤ v ∧ v < 1099511627776) (hn : 0 ≤ n ∧ n < 1099511627776) (hq : q ≤ 1099511627776) : chkM N (rpR f v n q) (fldE (rpR f v n q).k.toNat (rpR f v n q).h ((rpR f v n q).may [] [] [] []) (rpR f v n q).nil) = if 1 ≤ q then 0 else 114 := by
  have e1 : fldE (rpR f v n q).k.toNat (rpR f v n q).h ((rpR f v n q).may [] [] [] []) (rpR f v n q).nil = (rpR f v n q).tgt 2 [] [] [] [] := same_k2 (rpR f v n q) [] [] [] [] rfl
  rw [e1]
  have e2 : (rpR f v n q).tgt 2 [] [] [] [] = if 1 ≤ q then 0 else 114 := by
    have hv' : inR v 0 1099511627776 = true := by unfold inR; exact decide_eq_true ⟨hv.1, by omega⟩
    have hn' : inR n 0 1099511627776 = true := by unfold inR; exact decide_eq_true ⟨hn.1, by omega⟩
    have N2 : (rpR f v n q).numB 2 = (inR n 0 1099511627776 && (true && (true && (true && inR q 1 1099511627776)))) := rfl
    have B2 : (rpR f v n q).bodB 2 [] [] [] [] = true := by
      show ((!inK 2 79 || (rpR f v n q).oB) && ((!inK 2 82 || chkX 0 0 [] == 0) && ((!inK 2 69 || (rpR f v n q).eB []) && (!inH 2 false 71 || cgB 0 0 [] [])))) = true
      rfl
    have X2 : (rpR f v n q).extB 2 = false := by
      rw [extB_or, show inK 2 86 = true from rfl, show inK 2 75 = true from rfl, show inK 2 81 = true from rfl, show inK 2 82 = true from rfl]
      simp only [Bool.true_or, Bool.true_and]
      kernel_rfl
    unfold Ms.tgt
    rw [N2, B2, X2, show inK 2 86 = true from rfl, show (rpR f v n q).v = v from rfl, hv', hn']
    by_cases h1 : 1 ≤ q
    · rw [show inR q 1 1099511627776 = true by unfold inR; exact decide_eq_true ⟨h1, hq⟩, if_pos h1]; rfl
    · rw [show inR q 1 1099511627776 = false by unfold inR; exact decide_eq_false (by omega), if_neg h1]; rfl
  rw [e2]
  unfold chkM endB Ms.slf
  rw [if_neg (fun h => h hN), if_neg (by show ¬ ¬ (1 ≤ (2 : Int) ∧ (2 : Int) ≤ 15); omega)]
  have ef : (if (decide ((rpR f v n q).k = 1 ∨ (rpR f v n q).k = 14)) = true then decide (0 ≤ (rpR f v n q).f ∧ (rpR f v n q).f ≤ 7) else decide (0 ≤ (rpR f v n q).f ∧ (rpR f v n q).f ≤ N - 1)) = true := by
    show (if (decide ((2 : Int) = 1 ∨ (2 : Int) = 14)) = true then decide (0 ≤ f ∧ f ≤ 7) else decide (0 ≤ f ∧ f ≤ N - 1)) = true
    rw [if_neg (by decide)]
    exact decide_eq_true ⟨hf.1, by omega⟩
  have et : (if (decide ((rpR f v n q).k = 2 ∨ (rpR f v n q).k = 3 ∨ (rpR f v n q).k = 15)) = true then decide (0 ≤ (rpR f v n q).t ∧ (rpR f v n q).t ≤ 7) else decide (0 ≤ (rpR f v n q).t ∧ (rpR f v n q).t ≤ N - 1)) = true := by
    show (if (decide ((2 : Int) = 2 ∨ (2 : Int) = 3 ∨ (2 : Int) = 15)) = true then decide ((0 : Int) ≤ 0 ∧ (0 : Int) ≤ 7) else decide ((0 : Int) ≤ 0 ∧ (0 : Int) ≤ N - 1)) = true
    rw [if_pos (by decide)]
    rfl
  rw [ef, et, if_neg (by simp), if_neg (by simp)]
  have es : (decide ((rpR f v n q).f = (rpR f v n q).t) && (!decide ((rpR f v n q).k = 1 ∨ (rpR f v n q).k = 14) && !decide ((rpR f v n q).k = 2 ∨ (rpR f v n q).k = 3 ∨ (rpR f v n q).k = 15))) = false := by
    show (decide (f = 0) && (!decide ((2 : Int) = 1 ∨ (2 : Int) = 14) && !decide ((2 : Int) = 2 ∨ (2 : Int) = 3 ∨ (2 : Int) = 15))) = false
    simp
  rw [es, if_neg (by simp)]
end Go.Proofs.YtdhkdniddjnigaaGreatDoor

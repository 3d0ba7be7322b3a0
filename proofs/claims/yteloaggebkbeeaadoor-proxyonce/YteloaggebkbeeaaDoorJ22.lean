import Derived.Test.YteloaggebkbeeaaDoorRm3
import Derived.Test.YteloaggebkbeeaaDoorJ17
import Derived.Test.YteloaggebkbeeaaDoorPx28
import Derived.Test.YteloaggebkbeeaaDoorJ15
import Derived.Test.YteloaggebkbeeaaDoorPx23
import Derived.Test.YteloaggebkbeeaaDoorJ21
import Derived.Test.YteloaggebkbeeaaDoorRm4
import Derived.Test.YteloaggebkbeeaaDoorJ19
namespace Go.Proofs.YteloaggebkbeeaaDoor
open Go.RowKit
set_option linter.unusedVariables false

/-- The document's order of errors. -/
def Ms.tgt (m : Ms) (k : Nat) (li : List ByteArray) (le : List Ent) (ls : List Sh) (lx : List Ent) : Int := if (inK k 86 && !inR m.v 0 1099511627776) = true then 113 else if m.numB k = false then 114 else if m.bodB k li le ls lx = false then 115 else if m.extB k = true then 116 else 0
set_option maxRecDepth 100000 in
theorem same_k2 (m : Ms) (li : List ByteArray) (le : List Ent) (ls : List Sh) (lx : List Ent) (hk : m.k = 2) : fldE 2 m.h (m.may li le ls lx) m.nil = m.tgt 2 li le ls lx := by
  have a0 : inH 2 m.h (UInt8.toNat 86) = true := rfl
  have b0 : m.may li le ls lx (UInt8.toNat 86) = inR m.v 0 1099511627776 := rfl
  have a1 : inH 2 m.h (UInt8.toNat 75) = true := rfl
  have b1 : m.may li le ls lx (UInt8.toNat 75) = inR m.n 0 1099511627776 := by show inR m.n (lstK m.k) 1099511627776 = _; rw [hk]; rfl
  have a2 : inH 2 m.h (UInt8.toNat 81) = true := rfl
  have b2 : m.may li le ls lx (UInt8.toNat 81) = inR m.q 1 1099511627776 := rfl
  have a3 : inH 2 m.h (UInt8.toNat 82) = true := rfl
  have b3 : m.may li le ls lx (UInt8.toNat 82) = (chkX m.rc m.rn li == 0) := rfl
  have N : m.numB 2 = (inR m.n 0 1099511627776 && (true && (true && (true && inR m.q 1 1099511627776)))) := rfl
  have Bo : m.bodB 2 li le ls lx = (true && ((chkX m.rc m.rn li == 0) && (true && true))) := by
    show ((!inK 2 79 || m.oB) && ((!inK 2 82 || chkX m.rc m.rn li == 0) && ((!inK 2 69 || m.eB le) && (!inH 2 m.h 71 || cgB m.cf m.cb ls lx)))) = _
    rfl
  have V : inK 2 86 = true := rfl
  unfold fldE Ms.tgt Ms.extB
  rw [show fldN.getD 2 [] = [86, 75, 81, 82] from rfl, N, Bo, V]
  generalize (allF.data.toList.all fun r => inH 2 m.h r.toNat || m.nil r.toNat) = x
  simp only [List.find?, a0, b0, a1, b1, a2, b2, a3, b3]
  clear a0 b0 a1 b1 a2 b2 a3 b3 N Bo V
  generalize inR m.v 0 1099511627776 = y0
  generalize inR m.n 0 1099511627776 = y1
  generalize inR m.q 1 1099511627776 = y2
  generalize (chkX m.rc m.rn li == 0) = y3
  cases x <;> cases y0 <;> cases y1 <;> cases y2 <;> cases y3 <;> rfl
end Go.Proofs.YteloaggebkbeeaaDoor

namespace Go.Proofs.YteloaggebkbeeaaDoor
open Go.RowKit
set_option linter.unusedVariables false

def zA : List Value := [.bool false, .int .i64 0, .int .i64 0, .int .i64 0, .int .i64 0, .int .i64 0, .slice none 0 0]
/-- What a message does to a client. -/
def SR (x : Px) (b n1 n2 : Int) (AC : List Value) (is : Bool) (x' : Px) (n1' n2' : Int) : Prop :=
  (is = false ∧ AC = zA ∧ n1' = n1 ∧ n2' = n2 ∧ ∃ v, x.view ≤ v ∧ x' = { x with view := v }) ∨
  (is = true ∧ ∃ mm a1 k1 p1, AC = ansA mm (.slice a1 k1 p1) ∧ x.rq.wts = true ∧ x.rq.num = mm.q ∧ x' = x.reply mm ∧ n1' = b ∧ n2' = n2) ∨
  (is = true ∧ ∃ mm a1 k1 p1, AC = ansT mm (.slice a1 k1 p1) ∧ x.qu.wts = true ∧ x.qu.num = mm.q ∧ x.least ≤ mm.n ∧ x' = x.told mm ∧ n1' = n1 ∧ n2' = b)
theorem SR.none {x : Px} {b n1 n2 : Int} : SR x b n1 n2 zA false x n1 n2 := Or.inl ⟨rfl, rfl, rfl, rfl, x.view, Int.le_refl _, rfl⟩
/-- Step of any message. -/
theorem step_any {P : Nat} {x : Px} {b m n1 n2 : Int} {cs : List Comp} {w w0 : World} (h : All (pxL P x b m n1 n2 ++ cs) w) (hin : inC w0 ∈ cs) (mm : Ms) (E : Int) (hz : CopR w0 mm)
    (hC : ∀ W, Below w0.heap.size w0 W → Calls Tryd.prog 35 #[.int .i64 x.n, .agg mm.cells.toArray] W fun e w' => e = .returned (.int .i64 E) ∧ Below W.heap.size W w') :
    Calls Tryd.prog 15 #[.pointer (some ⟨P, 0, none⟩), .agg mm.cells.toArray] w fun e w' => ∃ AC is x' n1' n2', e = .returned (.tuple #[.agg AC.toArray, .bool is]) ∧ SR x b n1 n2 AC is x' n1' n2' ∧ All (pxL P x' b m n1' n2' ++ cs) w' := by
  by_cases hE : E = 0
  · subst hE
    by_cases ht : mm.t = x.id
    · by_cases h2 : mm.k = 2
      · cases ha : (x.rq.wts && (x.rq.num == mm.q)) with
        | false => exact (step_noreply h hin mm ht h2 ha hC).mono fun e w' ⟨he, hA⟩ => ⟨_, _, _, _, _, he, SR.none, hA⟩
        | true =>
          simp only [Bool.and_eq_true, beq_iff_eq] at ha
          exact (step_replyA h hin mm hz hC ht h2 ha.1 ha.2).mono fun e w' ⟨a1, k1, p1, he, hA⟩ => ⟨_, _, _, _, _, he, Or.inr (Or.inl ⟨rfl, mm, a1, k1, p1, rfl, ha.1, ha.2, rfl, rfl, rfl⟩), hA⟩
      · by_cases h3 : mm.k = 3
        · cases ha : (x.rq.wts && (x.rq.num == mm.q)) with
          | false => exact (step_nobusy h hin mm ht h3 ha hC).mono fun e w' ⟨he, hA⟩ => ⟨_, _, _, _, _, he, SR.none, hA⟩
          | true => exact (step_busy h hin mm ht h3 ha hC).mono fun e w' ⟨he, hA⟩ => ⟨_, _, _, _, _, he, Or.inl ⟨rfl, rfl, rfl, rfl, _, Int.le_max_left _ _, rfl⟩, hA⟩
        · by_cases h15 : mm.k = 15
          · cases ha : (x.qu.wts && (x.qu.num == mm.q)) with
            | false => exact (step_notold h hin mm ht h15 ha hC).mono fun e w' ⟨he, hA⟩ => ⟨_, _, _, _, _, he, SR.none, hA⟩
            | true =>
              by_cases hn : mm.n < x.least
              · exact (step_early h hin mm ht h15 ha hn hC).mono fun e w' ⟨he, hA⟩ => ⟨_, _, _, _, _, he, SR.none, hA⟩
              · have ha' := ha
                simp only [Bool.and_eq_true, beq_iff_eq] at ha'
                exact (step_told h hin mm ht h15 ha (by omega) hz hC).mono fun e w' ⟨a1, k1, p1, he, hA⟩ => ⟨_, _, _, _, _, he, Or.inr (Or.inr ⟨rfl, mm, a1, k1, p1, rfl, ha'.1, ha'.2, by omega, rfl, rfl, rfl⟩), hA⟩
          · exact (step_else h hin mm ht h2 h3 h15 hC).mono fun e w' ⟨he, hA⟩ => ⟨_, _, _, _, _, he, SR.none, hA⟩
    · exact (step_to h hin mm ht hC).mono fun e w' ⟨he, hA⟩ => ⟨_, _, _, _, _, he, SR.none, hA⟩
  · exact (step_bad h hin mm E hE hC).mono fun e w' ⟨he, hA⟩ => ⟨_, _, _, _, _, he, SR.none, hA⟩
/-- The program's Check of any message that came in. -/
theorem check_of {w0 : World} (n : Int) (hn : n = 3 ∨ n = 5 ∨ n = 7) (mm : Ms) {li : List ByteArray} {le lx : List Ent} {ls : List Sh} (hT : Tab w0) (hF : Fld w0) (hl : Ml w0 mm li le ls lx) :
    ∀ W, Below w0.heap.size w0 W → Calls Tryd.prog 35 #[.int .i64 n, .agg mm.cells.toArray] W fun e w' => e = .returned (.int .i64 (chkM n mm (fldE mm.k.toNat mm.h (mm.may li le ls lx) mm.nil))) ∧ Below W.heap.size W w' := fun W hb =>
  checkM_any (w := W) n (by omega) (by omega) mm _ (fun hk W' b hW hM => fields34 ((hT.below hb).below hW) ((hF.below hb).below hW) hM ((hl.later hb).later hW) (k := mm.k.toNat) (by omega) (by omega))
/-- The reply that a step makes. -/
def rpR (f v n q : Int) : Ms := ⟨2, f, 0, v, n, 0, 0, 0, q, false, 0, ⟨#[]⟩, ⟨#[]⟩, 0, 0, 0, 0, none, 0, 0, none, 0, 0, 0, 0, none, 0, 0, none, 0, 0⟩
theorem rpR_ml (f v n q : Int) (W : World) : Ml W (rpR f v n q) [] [] [] [] :=
  ⟨⟨none, 0, rfl, Nat.le_refl _, Or.inl rfl⟩, fun i x hx => by simp at hx, fun i x hx => by simp at hx, fun i x hx => by simp at hx, rfl, rfl, rfl, rfl, Nat.zero_le _, Nat.zero_le _, Nat.zero_le _, Nat.zero_le _⟩
theorem rpR_cop (f v n q : Int) (w0 : World) : CopR w0 (rpR f v n q) := fun W hb => (copied_nil (w := W)).mono fun e w' ⟨he, hb'⟩ => ⟨none, 0, 0, he, hb'⟩
theorem copR_of {w0 : World} {mm : Ms} {li : List ByteArray} (h : Txts w0 (.slice mm.ra mm.rl mm.rp) li) (hl : (li.length + 1) * 16 ≤ 140737488355328) : CopR w0 mm := fun W hb => copied_any mm.rc mm.rn (h.later hb) hl
theorem rpR_E {N f v n q : Int} (hN : N = 3 ∨ N = 5 ∨ N = 7) (hf : 0 ≤ f ∧ f < N) (hv : 0 ≤ v ∧ v < 1099511627776) (hn : 0 ≤ n ∧ n < 1099511627776) (hq : q ≤ 1099511627776) : chkM N (rpR f v n q) (fldE (rpR f v n q).k.toNat (rpR f v n q).h ((rpR f v n q).may [] [] [] []) (rpR f v n q).nil) = if 1 ≤ q then 0 else 114 := by
  have e1 : fldE (rpR f v n q).k.toNat (rpR f v n q).h ((rpR f v n q).may [] [] [] []) (rpR f v n q).nil = (rpR f v n q).tgt 2 [] [] [] [] := same_k2 (rpR f v n q) [] [] [] [] rfl
  rw [e1]
  have e2 : (rpR f v n q).tgt 2 [] [] [] [] = if 1 ≤ q then 0 else 114 := by
    have hv' : inR v 0 1099511627776 = true := by unfold inR; exact decide_eq_true ⟨hv.1, by omega⟩
    have hn' : inR n 0 1099511627776 = true := by unfold inR; exact decide_eq_true ⟨hn.1, by omega⟩
    have N2 : (rpR f v n q).numB 2 = (inR n 0 1099511627776 && (true && (true && (true && inR q 1 1099511627776)))) := rfl
    have B2 : (rpR f v n q).bodB 2 [] [] [] [] = true := by
      show ((!inK 2 79 || (rpR f v n q).oB) && ((!inK 2 82 || chkX 0 0 [] == 0) && ((!inK 2 69 || (rpR f v n q).eB []) && (!inH 2 false 71 || cgB 0 0 [] [])))) = true
      rfl
    have X2 : (rpR f v n q).extB 2 = false := by
      rw [extB_or, show inK 2 86 = true from rfl, show inK 2 75 = true from rfl, show inK 2 81 = true from rfl, show inK 2 82 = true from rfl]
      simp only [Bool.true_or, Bool.true_and]
      kernel_rfl
    unfold Ms.tgt
    rw [N2, B2, X2, show inK 2 86 = true from rfl, show (rpR f v n q).v = v from rfl, hv', hn']
    by_cases h1 : 1 ≤ q
    · rw [show inR q 1 1099511627776 = true by unfold inR; exact decide_eq_true ⟨h1, hq⟩, if_pos h1]; rfl
    · rw [show inR q 1 1099511627776 = false by unfold inR; exact decide_eq_false (by omega), if_neg h1]; rfl
  rw [e2]
  unfold chkM endB Ms.slf
  rw [if_neg (fun h => h hN), if_neg (by show ¬ ¬ (1 ≤ (2 : Int) ∧ (2 : Int) ≤ 15); omega)]
  have ef : (if (decide ((rpR f v n q).k = 1 ∨ (rpR f v n q).k = 14)) = true then decide (0 ≤ (rpR f v n q).f ∧ (rpR f v n q).f ≤ 7) else decide (0 ≤ (rpR f v n q).f ∧ (rpR f v n q).f ≤ N - 1)) = true := by
    show (if (decide ((2 : Int) = 1 ∨ (2 : Int) = 14)) = true then decide (0 ≤ f ∧ f ≤ 7) else decide (0 ≤ f ∧ f ≤ N - 1)) = true
    rw [if_neg (by decide)]
    exact decide_eq_true ⟨hf.1, by omega⟩
  have et : (if (decide ((rpR f v n q).k = 2 ∨ (rpR f v n q).k = 3 ∨ (rpR f v n q).k = 15)) = true then decide (0 ≤ (rpR f v n q).t ∧ (rpR f v n q).t ≤ 7) else decide (0 ≤ (rpR f v n q).t ∧ (rpR f v n q).t ≤ N - 1)) = true := by
    show (if (decide ((2 : Int) = 2 ∨ (2 : Int) = 3 ∨ (2 : Int) = 15)) = true then decide ((0 : Int) ≤ 0 ∧ (0 : Int) ≤ 7) else decide ((0 : Int) ≤ 0 ∧ (0 : Int) ≤ N - 1)) = true
    rw [if_pos (by decide)]
    rfl
  rw [ef, et, if_neg (by simp), if_neg (by simp)]
  have es : (decide ((rpR f v n q).f = (rpR f v n q).t) && (!decide ((rpR f v n q).k = 1 ∨ (rpR f v n q).k = 14) && !decide ((rpR f v n q).k = 2 ∨ (rpR f v n q).k = 3 ∨ (rpR f v n q).k = 15))) = false := by
    show (decide (f = 0) && (!decide ((2 : Int) = 1 ∨ (2 : Int) = 14) && !decide ((2 : Int) = 2 ∨ (2 : Int) = 3 ∨ (2 : Int) = 15))) = false
    simp
  rw [es, if_neg (by simp)]
/-- The document's Check of it tells some number. -/
theorem rpR_doc {N f v n q : Int} (hN : N = 3 ∨ N = 5 ∨ N = 7) {W : World} (hT : Tab W) : Calls Tryd.prog 16 #[.int .i64 N, .agg (rpR f v n q).cells.toArray] W fun e w' => ∃ r, e = .returned (.int .i64 r) ∧ Below W.heap.size W w' :=
  (rcheckM (w := W) N hN (rpR f v n q) (k := 2) (by omega) rfl _ _ _ (fun W' hb => num_k2 (w := W') (rpR f v n q) rfl) (fun _ W' hb => bod_k2 (w := W') (rpR f v n q) (hT.below hb) (rpR_ml f v n q W') rfl) (fun W' hb => rext_k2 (w := W') (rpR f v n q) rfl)).mono fun e w' ⟨he, hb⟩ => ⟨_, he, hb⟩
end Go.Proofs.YteloaggebkbeeaaDoor

namespace Go.Proofs.YteloaggebkbeeaaDoor
open Go.RowKit
set_option linter.unusedVariables false

set_option maxRecDepth 1000000 in
/-- Ask of an op that may not be. -/
theorem ask_bad {P : Nat} {x : Px} {b m n1 n2 : Int} {cs : List Comp} {w w0 : World} (h : All (pxL P x b m n1 n2 ++ cs) w) (hT : Tab w0) (hin : inC w0 ∈ cs) (k : Int) (nm tx : ByteArray) (a d : Int) (who : Int) (hc : chkA k nm.size tx.size a d ≠ 0) : Calls Tryd.prog 12 #[.pointer (some ⟨P, 0, none⟩), .int .i64 who, opV k nm tx a d] w fun e w' => e = .returned (.tuple #[.slice none 0 0, .int .i64 (chkA k nm.size tx.size a d)]) ∧ All (pxL P x b m n1 n2 ++ cs) w' := by
  have A1 := hid (h.alloc (.cells #[.int .i64 k, .string nm, .string tx, .int .i64 a, .int .i64 d] 32))
  have C := hid (check_any (hT.below (A1.out.into (List.mem_append_right _ hin))) k nm tx a d)
  generalize chkA k nm.size tx.size a d = E at hc C ⊢
  have e1 : (E != 0) = true := by simpa using hc
  clear h hT hin hc
  go_enter Tryd.func12, Tryd.ntmps12
  go_wp2_with fail
  refine C.out.mono ?_
  rintro e w1 ⟨rfl, BB⟩
  have A2 := hid (A1.out.later BB)
  clear BB C A1
  go_wp2
  go_ret2
  exact ⟨rfl, A2.out⟩
set_option maxHeartbeats 1600000 in
set_option maxRecDepth 1000000 in
/-- Ask of what is no query. -/
theorem ask_noq {P : Nat} {x : Px} {b m n1 n2 : Int} {cs : List Comp} {w w0 : World} (h : All (pxL P x b m n1 n2 ++ cs) w) (hT : Tab w0) (hin : inC w0 ∈ cs) (k : Int) (nm tx : ByteArray) (a d : Int) (who : Int) (hc : chkA k nm.size tx.size a d = 0) (hk : ¬ (6 ≤ k ∧ k ≤ 8)) : Calls Tryd.prog 12 #[.pointer (some ⟨P, 0, none⟩), .int .i64 who, opV k nm tx a d] w fun e w' => e = .returned (.tuple #[.slice none 0 0, .int .i64 56]) ∧ All (pxL P x b m n1 n2 ++ cs) w' := by
  obtain ⟨H, hH⟩ : ∃ H, Hid (H = w.heap.size) := ⟨_, hid rfl⟩
  have A1 := hid (h.addBlk [.int .i64 k, .string nm, .string tx, .int .i64 a, .int .i64 d] 32)
  rw [← hH.out] at A1
  have A1 := hid (A1.out.perm (List.perm_middle (l₁ := pxL P x b m n1 n2)).symm)
  have C : Hid (Calls Tryd.prog 23 #[opV k nm tx a d] (w.alloc (.cells #[.int .i64 k, .string nm, .string tx, .int .i64 a, .int .i64 d] 32)) fun e w' => e = .returned (.int .i64 0) ∧ Below (w.alloc (.cells #[.int .i64 k, .string nm, .string tx, .int .i64 a, .int .i64 d] 32)).heap.size (w.alloc (.cells #[.int .i64 k, .string nm, .string tx, .int .i64 a, .int .i64 d] 32)) w') := hid (by
    have := check_any (hT.below (A1.out.into (List.mem_append_right _ (List.mem_cons_of_mem _ hin)))) k nm tx a d
    rw [hc] at this
    exact this)
  have C31 : Hid (∀ W : World, Calls Tryd.prog 31 #[.int .i64 k] W fun e w' => e = .returned (.bool false) ∧ w' = W) := hid (fun W => by have := query_any (w := W) k; rw [decide_eq_false hk] at this; exact this)
  clear h hT hin hc hk
  go_enter Tryd.func12, Tryd.ntmps12
  go_wp2_with fail
  refine C.out.mono ?_
  rintro e w1 ⟨rfl, BB⟩
  have A2 : Hid (All (pxL P x b m n1 n2 ++ (blkC H [.int .i64 k, .string nm, .string tx, .int .i64 a, .int .i64 d] 32 :: cs)) w1) := hid (A1.out.later BB)
  simp only [← hH.out]
  clear BB C A1
  have SF : Hid (∀ W, All (pxL P x b m n1 n2 ++ (blkC H [.int .i64 k, .string nm, .string tx, .int .i64 a, .int .i64 d] 32 :: cs)) W → W.cell? ⟨H, 0, none⟩ = some (.int .i64 k) ∧ W.cell? ⟨H, 1, none⟩ = some (.string nm) ∧ W.cell? ⟨H, 2, none⟩ = some (.string tx) ∧ W.cell? ⟨H, 3, none⟩ = some (.int .i64 a) ∧ W.cell? ⟨H, 4, none⟩ = some (.int .i64 d)) := hid (fun W hW => opCells (hW.blk (by simp)))
  have k0 : w1.cell? ⟨H, 0, none⟩ = some (.int .i64 k) := (SF.out _ A2.out).1
  go_wp2_with (go_at_call 31; refine (C31.out _).mono ?_; rintro e w' ⟨rfl, rfl⟩)
  go_ret2
  exact ⟨rfl, (A2.out.perm (List.perm_middle (l₁ := pxL P x b m n1 n2))).tail⟩
set_option maxHeartbeats 1600000 in
set_option maxRecDepth 1000000 in
/-- Ask while a question waits. -/
theorem ask_no {P : Nat} {x : Px} {b m n1 n2 : Int} {cs : List Comp} {w w0 : World} (h : All (pxL P x b m n1 n2 ++ cs) w) (hT : Tab w0) (hin : inC w0 ∈ cs) (k : Int) (nm tx : ByteArray) (a d : Int) (who : Int) (hc : chkA k nm.size tx.size a d = 0) (hk : 6 ≤ k ∧ k ≤ 8) (hw0 : 0 ≤ who) (hw1 : who < x.n) {E : Int} (hE : E ≠ 0) (hC : ∀ W cs', All (pxL P x b m n1 n2 ++ cs') W → Calls Tryd.prog 24 #[.pointer (some ⟨P, 13, none⟩), opV k nm tx a d] W fun e w' => e = .returned (.int .i64 E) ∧ All (pxL P x b m n1 n2 ++ cs') w') : Calls Tryd.prog 12 #[.pointer (some ⟨P, 0, none⟩), .int .i64 who, opV k nm tx a d] w fun e w' => e = .returned (.tuple #[.slice none 0 0, .int .i64 E]) ∧ All (pxL P x b m n1 n2 ++ cs) w' := by
  obtain ⟨H, hH⟩ : ∃ H, Hid (H = w.heap.size) := ⟨_, hid rfl⟩
  have A1 := hid (h.addBlk [.int .i64 k, .string nm, .string tx, .int .i64 a, .int .i64 d] 32)
  rw [← hH.out] at A1
  have A1 := hid (A1.out.perm (List.perm_middle (l₁ := pxL P x b m n1 n2)).symm)
  have C : Hid (Calls Tryd.prog 23 #[opV k nm tx a d] (w.alloc (.cells #[.int .i64 k, .string nm, .string tx, .int .i64 a, .int .i64 d] 32)) fun e w' => e = .returned (.int .i64 0) ∧ Below (w.alloc (.cells #[.int .i64 k, .string nm, .string tx, .int .i64 a, .int .i64 d] 32)).heap.size (w.alloc (.cells #[.int .i64 k, .string nm, .string tx, .int .i64 a, .int .i64 d] 32)) w') := hid (by
    have := check_any (hT.below (A1.out.into (List.mem_append_right _ (List.mem_cons_of_mem _ hin)))) k nm tx a d
    rw [hc] at this
    exact this)
  have C31 : Hid (∀ W : World, Calls Tryd.prog 31 #[.int .i64 k] W fun e w' => e = .returned (.bool true) ∧ w' = W) := hid (fun W => by have := query_any (w := W) k; rw [decide_eq_true hk] at this; exact this)
  have HC := hid hC
  have e3 : (E != 0) = true := by simpa using hE
  have e1 : decide (who < 0) = false := by simpa using hw0
  have e2 : decide (x.n ≤ who) = false := by simpa using hw1
  clear h hT hin hc hk hC hE hw0 hw1
  go_enter Tryd.func12, Tryd.ntmps12
  go_wp2_with fail
  refine C.out.mono ?_
  rintro e w1 ⟨rfl, BB⟩
  have A2 : Hid (All (pxL P x b m n1 n2 ++ (blkC H [.int .i64 k, .string nm, .string tx, .int .i64 a, .int .i64 d] 32 :: cs)) w1) := hid (A1.out.later BB)
  simp only [← hH.out]
  clear BB C A1
  have SF : Hid (∀ W, All (pxL P x b m n1 n2 ++ (blkC H [.int .i64 k, .string nm, .string tx, .int .i64 a, .int .i64 d] 32 :: cs)) W → W.cell? ⟨H, 0, none⟩ = some (.int .i64 k) ∧ W.cell? ⟨H, 1, none⟩ = some (.string nm) ∧ W.cell? ⟨H, 2, none⟩ = some (.string tx) ∧ W.cell? ⟨H, 3, none⟩ = some (.int .i64 a) ∧ W.cell? ⟨H, 4, none⟩ = some (.int .i64 d)) := hid (fun W hW => opCells (hW.blk (by simp)))
  have k0 : w1.cell? ⟨H, 0, none⟩ = some (.int .i64 k) := (SF.out _ A2.out).1
  have c0 : w1.cell? ⟨P, 0, none⟩ = some (.int .i64 x.n) := by rw [cell_at A2.out.px]; rfl
  go_upto_region 8 with (go_at_call 31; refine (C31.out _).mono ?_; rintro e w' ⟨rfl, rfl⟩)
  have A3 := hid A2.out.drew
  have p0 := hid (SF.out _ A3.out)
  clear k0 c0
  go_region_held3 (fun W => W.cell? ⟨H, 0, none⟩ = some (.int .i64 k) ∧ W.cell? ⟨H, 1, none⟩ = some (.string nm) ∧ W.cell? ⟨H, 2, none⟩ = some (.string tx) ∧ W.cell? ⟨H, 3, none⟩ = some (.int .i64 a) ∧ W.cell? ⟨H, 4, none⟩ = some (.int .i64 d)) (first | with_reducible exact p0.out | with_reducible exact p1.out)
    (first
      | (go_at_call 24; refine (HC.out _ _ A3.out).mono ?_; rintro e w2 ⟨rfl, hw2⟩; have A4 := hid hw2; have p1 := hid (SF.out _ A4.out); clear hw2))
  clear p0 p1 A3 A2
  go_wp2
  go_ret2
  exact ⟨rfl, (A4.out.perm (List.perm_middle (l₁ := pxL P x b m n1 n2))).tail⟩
end Go.Proofs.YteloaggebkbeeaaDoor

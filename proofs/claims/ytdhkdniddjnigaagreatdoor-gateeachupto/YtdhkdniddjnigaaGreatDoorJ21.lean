import Derived.Test.YtdhkdniddjnigaaGreatDoorJ20
import Derived.Test.YtdhkdniddjnigaaGreatDoorJ16
import Derived.Test.YtdhkdniddjnigaaGreatDoorJ15
import Derived.Test.YtdhkdniddjnigaaGreatDoorJ5
import Derived.Test.YtdhkdniddjnigaaGreatDoorJ2
namespace Go.Proofs.YtdhkdniddjnigaaGreatDoor
open Go.RowKit
set_option linter.unusedVariables false

/-- Is there something that its kind has not? -/
def Ms.extB (m : Ms) (k : Nat) : Bool := !(allF.data.toList.all fun r => inH k m.h r.toNat || m.nil r.toNat)
theorem inH_K {k : Nat} {h : Bool} {r : Nat} (hr : r ≠ 71) : inH k h r = inK k r := by simp [inH, hr]
theorem or11 (cV cK cC cN cL cQ cH cO cR cE cG : Bool) : (!(cV && (cK && (cC && (cN && (cL && (cQ && (cH && (cO && (cR && (cE && (cG && true)))))))))))) = (!(cV && (cK && (cC && cN))) || (!(cL && (cQ && (cH && cE))) || (!cO || (!cR || !cG)))) := by
  cases cV <;> cases cK <;> cases cC <;> cases cN <;> cases cL <;> cases cQ <;> simp <;> cases cH <;> cases cO <;> cases cR <;> simp <;> cases cE <;> cases cG <;> rfl
theorem extB_or (m : Ms) (k : Nat) : m.extB k = (!((inK k 86 || (m.v == 0)) && ((inK k 75 || (m.n == 0)) && ((inK k 67 || (m.c == 0)) && (inK k 78 || (m.o == 0))))) || (!((inK k 76 || (m.l == 0)) && ((inK k 81 || (m.q == 0)) && ((inK k 72 || (!m.h)) && (inK k 69 || ((m.el : Int) == 0))))) || (!(inK k 79 || m.zO) || (!(inK k 82 || m.zR) || !(inH k m.h 71 || m.zG))))) := by
  rw [← or11]
  show (!((inH k m.h 86 || _) && ((inH k m.h 75 || _) && ((inH k m.h 67 || _) && ((inH k m.h 78 || _) && ((inH k m.h 76 || _) && ((inH k m.h 81 || _) && ((inH k m.h 72 || _) && ((inH k m.h 79 || _) && ((inH k m.h 82 || _) && ((inH k m.h 69 || _) && ((inH k m.h 71 || _) && true)))))))))))) = _
  rw [inH_K (r := 86) (by omega), inH_K (r := 75) (by omega), inH_K (r := 67) (by omega), inH_K (r := 78) (by omega), inH_K (r := 76) (by omega), inH_K (r := 81) (by omega), inH_K (r := 72) (by omega), inH_K (r := 79) (by omega), inH_K (r := 82) (by omega), inH_K (r := 69) (by omega)]
  rfl
end Go.Proofs.YtdhkdniddjnigaaGreatDoor

namespace Go.Proofs.YtdhkdniddjnigaaGreatDoor
open Go.RowKit
set_option linter.unusedVariables false

/-- The document's order of errors. -/
def Ms.tgt (m : Ms) (k : Nat) (li : List ByteArray) (le : List Ent) (ls : List Sh) (lx : List Ent) : Int := if (inK k 86 && !inR m.v 0 1099511627776) = true then 113 else if m.numB k = false then 114 else if m.bodB k li le ls lx = false then 115 else if m.extB k = true then 116 else 0
set_option maxRecDepth 100000 in
theorem same_k2 (m : Ms) (li : List ByteArray) (le : List Ent) (ls : List Sh) (lx : List Ent) (hk : m.k = 2) : fldE 2 m.h (m.may li le ls lx) m.nil = m.tgt 2 li le ls lx := by
  have a0 : inH 2 m.h (UInt8.toNat 86) = true := rfl
  have b0 : m.may li le ls lx (UInt8.toNat 86) = inR m.v 0 1099511627776 := rfl
  have a1 : inH 2 m.h (UInt8.toNat 75) = true := rfl
  have b1 : m.may li le ls lx (UInt8.toNat 75) = inR m.n 0 1099511627776 := by show inR m.n (lstK m.k) 1099511627776 = _; rw [hk]; rfl
  have a2 : inH 2 m.h (UInt8.toNat 81) = true := rfl
  have b2 : m.may li le ls lx (UInt8.toNat 81) = inR m.q 1 1099511627776 := rfl
  have a3 : inH 2 m.h (UInt8.toNat 82) = true := rfl
  have b3 : m.may li le ls lx (UInt8.toNat 82) = (chkX m.rc m.rn li == 0) := rfl
  have N : m.numB 2 = (inR m.n 0 1099511627776 && (true && (true && (true && inR m.q 1 1099511627776)))) := rfl
  have Bo : m.bodB 2 li le ls lx = (true && ((chkX m.rc m.rn li == 0) && (true && true))) := by
    show ((!inK 2 79 || m.oB) && ((!inK 2 82 || chkX m.rc m.rn li == 0) && ((!inK 2 69 || m.eB le) && (!inH 2 m.h 71 || cgB m.cf m.cb ls lx)))) = _
    rfl
  have V : inK 2 86 = true := rfl
  unfold fldE Ms.tgt Ms.extB
  rw [show fldN.getD 2 [] = [86, 75, 81, 82] from rfl, N, Bo, V]
  generalize (allF.data.toList.all fun r => inH 2 m.h r.toNat || m.nil r.toNat) = x
  simp only [List.find?, a0, b0, a1, b1, a2, b2, a3, b3]
  clear a0 b0 a1 b1 a2 b2 a3 b3 N Bo V
  generalize inR m.v 0 1099511627776 = y0
  generalize inR m.n 0 1099511627776 = y1
  generalize inR m.q 1 1099511627776 = y2
  generalize (chkX m.rc m.rn li == 0) = y3
  cases x <;> cases y0 <;> cases y1 <;> cases y2 <;> cases y3 <;> rfl
end Go.Proofs.YtdhkdniddjnigaaGreatDoor

namespace Go.Proofs.YtdhkdniddjnigaaGreatDoor
open Go.RowKit
set_option linter.unusedVariables false

/-- The program's Check of any message that came in. -/
theorem check_of {w0 : World} (n : Int) (hn : n = 3 ∨ n = 5 ∨ n = 7) (mm : Ms) {li : List ByteArray} {le lx : List Ent} {ls : List Sh} (hT : Tab w0) (hF : Fld w0) (hl : Ml w0 mm li le ls lx) :
    ∀ W, Below w0.heap.size w0 W → Calls Tryz.prog 56 #[.int .i64 n, .agg mm.cells.toArray] W fun e w' => e = .returned (.int .i64 (chkM n mm (fldE mm.k.toNat mm.h (mm.may li le ls lx) mm.nil))) ∧ Below W.heap.size W w' := fun W hb =>
  checkM_any (w := W) n (by omega) (by omega) mm _ (fun hk W' b hW hM => fields34 ((hT.below hb).below hW) ((hF.below hb).below hW) hM ((hl.later hb).later hW) (k := mm.k.toNat) (by omega) (by omega))
/-- The reply that a step makes. -/
def rpR (f v n q : Int) : Ms := ⟨2, f, 0, v, n, 0, 0, 0, q, false, 0, ⟨#[]⟩, ⟨#[]⟩, 0, 0, 0, 0, none, 0, 0, none, 0, 0, 0, 0, none, 0, 0, none, 0, 0⟩
theorem rpR_ml (f v n q : Int) (W : World) : Ml W (rpR f v n q) [] [] [] [] :=
  ⟨⟨none, 0, rfl, Nat.le_refl _, Or.inl rfl⟩, fun i x hx => by simp at hx, fun i x hx => by simp at hx, fun i x hx => by simp at hx, rfl, rfl, rfl, rfl, Nat.zero_le _, Nat.zero_le _, Nat.zero_le _, Nat.zero_le _⟩
theorem rpR_E {N f v n q : Int} (hN : N = 3 ∨ N = 5 ∨ N = 7) (hf : 0 ≤ f ∧ f < N) (hv : 0 ≤ v ∧ v < 1099511627776) (hn : 0 ≤ n ∧ n < 1099511627776) (hq : q ≤ 1099511627776) : chkM N (rpR f v n q) (fldE (rpR f v n q).k.toNat (rpR f v n q).h ((rpR f v n q).may [] [] [] []) (rpR f v n q).nil) = if 1 ≤ q then 0 else 114 := by
  have e1 : fldE (rpR f v n q).k.toNat (rpR f v n q).h ((rpR f v n q).may [] [] [] []) (rpR f v n q).nil = (rpR f v n q).tgt 2 [] [] [] [] := same_k2 (rpR f v n q) [] [] [] [] rfl
  rw [e1]
  have e2 : (rpR f v n q).tgt 2 [] [] [] [] = if 1 ≤ q then 0 else 114 := by
    have hv' : inR v 0 1099511627776 = true := by unfold inR; exact decide_eq_true ⟨hv.1, by omega⟩
    have hn' : inR n 0 1099511627776 = true := by unfold inR; exact decide_eq_true ⟨hn.1, by omega⟩
    have N2 : (rpR f v n q).numB 2 = (inR n 0 1099511627776 && (true && (true && (true && inR q 1 1099511627776)))) := rfl
    have B2 : (rpR f v n q).bodB 2 [] [] [] [] = true := by
      show ((!inK 2 79 || (rpR f v n q).oB) && ((!inK 2 82 || chkX 0 0 [] == 0) && ((!inK 2 69 || (rpR f v n q).eB []) && (!inH 2 false 71 || cgB 0 0 [] [])))) = true
      rfl
    have X2 : (rpR f v n q).extB 2 = false := by
      rw [extB_or, show inK 2 86 = true from rfl, show inK 2 75 = true from rfl, show inK 2 81 = true from rfl, show inK 2 82 = true from rfl]
      simp only [Bool.true_or, Bool.true_and]
      kernel_rfl
    unfold Ms.tgt
    rw [N2, B2, X2, show inK 2 86 = true from rfl, show (rpR f v n q).v = v from rfl, hv', hn']
    by_cases h1 : 1 ≤ q
    · rw [show inR q 1 1099511627776 = true by unfold inR; exact decide_eq_true ⟨h1, hq⟩, if_pos h1]; rfl
    · rw [show inR q 1 1099511627776 = false by unfold inR; exact decide_eq_false (by omega), if_neg h1]; rfl
  rw [e2]
  unfold chkM endB Ms.slf
  rw [if_neg (fun h => h hN), if_neg (by show ¬ ¬ (1 ≤ (2 : Int) ∧ (2 : Int) ≤ 15); omega)]
  have ef : (if (decide ((rpR f v n q).k = 1 ∨ (rpR f v n q).k = 14)) = true then decide (0 ≤ (rpR f v n q).f ∧ (rpR f v n q).f ≤ 7) else decide (0 ≤ (rpR f v n q).f ∧ (rpR f v n q).f ≤ N - 1)) = true := by
    show (if (decide ((2 : Int) = 1 ∨ (2 : Int) = 14)) = true then decide (0 ≤ f ∧ f ≤ 7) else decide (0 ≤ f ∧ f ≤ N - 1)) = true
    rw [if_neg (by decide)]
    exact decide_eq_true ⟨hf.1, by omega⟩
  have et : (if (decide ((rpR f v n q).k = 2 ∨ (rpR f v n q).k = 3 ∨ (rpR f v n q).k = 15)) = true then decide (0 ≤ (rpR f v n q).t ∧ (rpR f v n q).t ≤ 7) else decide (0 ≤ (rpR f v n q).t ∧ (rpR f v n q).t ≤ N - 1)) = true := by
    show (if (decide ((2 : Int) = 2 ∨ (2 : Int) = 3 ∨ (2 : Int) = 15)) = true then decide ((0 : Int) ≤ 0 ∧ (0 : Int) ≤ 7) else decide ((0 : Int) ≤ 0 ∧ (0 : Int) ≤ N - 1)) = true
    rw [if_pos (by decide)]
    rfl
  rw [ef, et, if_neg (by simp), if_neg (by simp)]
  have es : (decide ((rpR f v n q).f = (rpR f v n q).t) && (!decide ((rpR f v n q).k = 1 ∨ (rpR f v n q).k = 14) && !decide ((rpR f v n q).k = 2 ∨ (rpR f v n q).k = 3 ∨ (rpR f v n q).k = 15))) = false := by
    show (decide (f = 0) && (!decide ((2 : Int) = 1 ∨ (2 : Int) = 14) && !decide ((2 : Int) = 2 ∨ (2 : Int) = 3 ∨ (2 : Int) = 15))) = false
    simp
  rw [es, if_neg (by simp)]
end Go.Proofs.YtdhkdniddjnigaaGreatDoor

namespace Go.Proofs.YtdhkdniddjnigaaGreatDoor
open Go.RowKit
set_option linter.unusedVariables false

theorem rpR_copV (f v n q : Int) (w0 : World) : CopV w0 (rpR f v n q) none 0 0 := fun W hb => (copied_nil (w := W)).mono fun e w' ⟨he, hb'⟩ => ⟨he, hb'⟩
/-- A client inside a gate. -/
theorem Gt.px_in {G P : Nat} {s : Gs} {tl : List UInt8} {b m : Int} {t u v : Value} {cs : List Comp} {w : World} (A : All (gtL G P s tl b m t u v ++ cs) w) : All (pxL P s.x b m s.n1 s.n2 ++ ([blkC G (gtV s P t u v) 79, ownC 5 t (cellsB s.tx), ownC 5 v (cellsB tl), wsC P u s.ws] ++ cs)) w :=
  A.perm (List.perm_append_comm_assoc [blkC G (gtV s P t u v) 79, ownC 5 t (cellsB s.tx), ownC 5 v (cellsB tl), wsC P u s.ws] (pxL P s.x b m s.n1 s.n2) cs)
/-- A reply to what the client asks for. -/
def Gs.reply (s : Gs) (mm : Ms) (b : Int) : Gs := { s with x := s.x.reply mm, n1 := b }
set_option maxRecDepth 1000000 in
theorem reply_gt {G P : Nat} {s : Gs} {tl : List UInt8} {b m : Int} {cs : List Comp} {w w0 : World} (f v n q : Int) (h : Gt G P s tl b m cs w) (E : Evs cs) (hD : ∀ W, All cs W → Cd W) (hin : inC w0 ∈ cs) (hT : Tab w0) (hF : Fld w0)
    (ht : s.x.id = 0) (hw : s.x.rq.wts = true) (hq : s.x.rq.num = q) (q1 : 1 ≤ q) (q2 : q ≤ 1099511627776) (hf : 0 ≤ f ∧ f < 3) (hn3 : s.x.n = 3) (hv : 0 ≤ v ∧ v < 1099511627776) (hn : 0 ≤ n ∧ n < 1099511627776)
    (I : PxI s.x m s.n1 s.n2) (hb : 1 ≤ b ∧ b ≤ m) (hno : ∀ q ∈ s.ws, 0 ≤ q.no ∧ q.no ≤ 4611686018427387904) (hws : s.ws.length ≤ 16) (hu : 0 ≤ s.uw ∧ s.uw ≤ 4611686018427387904) (htl : tl.length ≤ 40000000000000) :
    Calls Tryz.prog 20 #[.pointer (some ⟨G, 0, none⟩), .agg (rpR f v n q).cells.toArray] w fun e w' => ∃ v', e = .returned v' ∧ Gt G P (ansM m (s.reply (rpR f v n q) b) false 0 n).s (tl ++ (ansM m (s.reply (rpR f v n q) b) false 0 n).tl) b m (msC v' (ansM m (s.reply (rpR f v n q) b) false 0 n).ms :: cs) w' := by
  have hE : chkM 3 (rpR f v n q) (fldE (rpR f v n q).k.toNat (rpR f v n q).h ((rpR f v n q).may [] [] [] []) (rpR f v n q).nil) = 0 := by
    rw [rpR_E (Or.inl rfl) hf hv hn q2, if_pos q1]
  have hC := check_of 3 (Or.inl rfl) (rpR f v n q) hT hF (rpR_ml f v n q w0)
  rw [hE] at hC
  refine step_gt (s' := s.reply (rpR f v n q) b) (nd := 0) false (rpR f v n q) h E hD ?_ ?_ hno hws hu ⟨hn.1, by show n ≤ _; omega⟩ ⟨Int.le_refl _, by omega⟩ htl
  · intro W ds hG
    obtain ⟨t, u, z, A⟩ := hG
    refine (step_replyV (w0 := w0) (Gt.px_in A) (by simp [hin]) (rpR f v n q) (rpR_copV f v n q w0) (by rw [hn3]; exact hC) ht.symm rfl hw hq).mono ?_
    rintro e w' ⟨rfl, hA⟩
    exact ⟨rfl, t, u, z, hA.perm (List.perm_append_comm_assoc (pxL P (s.x.reply (rpR f v n q)) b m b s.n2) [blkC G (gtV s P t u z) 79, ownC 5 t (cellsB s.tx), ownC 5 z (cellsB tl), wsC P u s.ws] (ds ++ cs))⟩
  · obtain ⟨i1, i2, i3, i4, i5, i6, i7⟩ := I
    exact ⟨i1, Int.le_trans i2 (Int.le_max_left _ _), i3, i4, hb, i6, i7⟩
end Go.Proofs.YtdhkdniddjnigaaGreatDoor

namespace Go.Proofs.YtdhkdniddjnigaaGreatDoor
open Go.RowKit
set_option linter.unusedVariables false

/-- The word that a question's asked node tells. -/
def tpR (f n q : Int) : Ms := ⟨15, f, 0, 0, n, 0, 0, 0, q, false, 0, ⟨#[]⟩, ⟨#[]⟩, 0, 0, 0, 0, none, 0, 0, none, 0, 0, 0, 0, none, 0, 0, none, 0, 0⟩
theorem tpR_ml (f n q : Int) (W : World) : Ml W (tpR f n q) [] [] [] [] :=
  ⟨⟨none, 0, rfl, Nat.le_refl _, Or.inl rfl⟩, fun i x hx => by simp at hx, fun i x hx => by simp at hx, fun i x hx => by simp at hx, rfl, rfl, rfl, rfl, Nat.zero_le _, Nat.zero_le _, Nat.zero_le _, Nat.zero_le _⟩
theorem tpR_copV (f n q : Int) (w0 : World) : CopV w0 (tpR f n q) none 0 0 := fun W hb => (copied_nil (w := W)).mono fun e w' ⟨he, hb'⟩ => ⟨he, hb'⟩
set_option maxRecDepth 100000 in
theorem tpR_E {f n q : Int} (hf : 0 ≤ f ∧ f < 3) (hn : 0 ≤ n ∧ n < 1099511627776) (h1 : 1 ≤ q) (hq : q ≤ 1099511627776) : chkM 3 (tpR f n q) (fldE (tpR f n q).k.toNat (tpR f n q).h ((tpR f n q).may [] [] [] []) (tpR f n q).nil) = 0 := by
  have e1 : fldE (tpR f n q).k.toNat (tpR f n q).h ((tpR f n q).may [] [] [] []) (tpR f n q).nil = 0 := by
    have a1 : inH 15 (tpR f n q).h (UInt8.toNat 75) = true := rfl
    have b1 : (tpR f n q).may [] [] [] [] (UInt8.toNat 75) = true := by
      show inR n 0 1099511627776 = true
      unfold inR; exact decide_eq_true ⟨hn.1, by omega⟩
    have a2 : inH 15 (tpR f n q).h (UInt8.toNat 81) = true := rfl
    have b2 : (tpR f n q).may [] [] [] [] (UInt8.toNat 81) = true := by
      show inR q 1 1099511627776 = true
      unfold inR; exact decide_eq_true ⟨h1, hq⟩
    have a3 : inH 15 (tpR f n q).h (UInt8.toNat 82) = true := rfl
    have b3 : (tpR f n q).may [] [] [] [] (UInt8.toNat 82) = true := by
      show (chkX 0 0 [] == 0) = true
      rfl
    have X2 : (allF.data.toList.all fun r => inH 15 (tpR f n q).h r.toNat || (tpR f n q).nil r.toNat) = true := by kernel_rfl
    show fldE 15 (tpR f n q).h ((tpR f n q).may [] [] [] []) (tpR f n q).nil = 0
    unfold fldE
    rw [show fldN.getD 15 [] = [75, 81, 82] from rfl, X2]
    simp only [List.find?, a1, b1, a2, b2, a3, b3]
    rfl
  rw [e1]
  unfold chkM endB Ms.slf
  rw [if_neg (fun h => h (Or.inl rfl)), if_neg (by show ¬ ¬ (1 ≤ (15 : Int) ∧ (15 : Int) ≤ 15); omega)]
  have ef : (if (decide ((tpR f n q).k = 1 ∨ (tpR f n q).k = 14)) = true then decide (0 ≤ (tpR f n q).f ∧ (tpR f n q).f ≤ 7) else decide (0 ≤ (tpR f n q).f ∧ (tpR f n q).f ≤ 3 - 1)) = true := by
    show (if (decide ((15 : Int) = 1 ∨ (15 : Int) = 14)) = true then decide (0 ≤ f ∧ f ≤ 7) else decide (0 ≤ f ∧ f ≤ 3 - 1)) = true
    rw [if_neg (by decide)]
    exact decide_eq_true ⟨hf.1, by omega⟩
  have et : (if (decide ((tpR f n q).k = 2 ∨ (tpR f n q).k = 3 ∨ (tpR f n q).k = 15)) = true then decide (0 ≤ (tpR f n q).t ∧ (tpR f n q).t ≤ 7) else decide (0 ≤ (tpR f n q).t ∧ (tpR f n q).t ≤ 3 - 1)) = true := by
    show (if (decide ((15 : Int) = 2 ∨ (15 : Int) = 3 ∨ (15 : Int) = 15)) = true then decide ((0 : Int) ≤ 0 ∧ (0 : Int) ≤ 7) else decide ((0 : Int) ≤ 0 ∧ (0 : Int) ≤ 3 - 1)) = true
    rw [if_pos (by decide)]
    rfl
  rw [ef, et, if_neg (by simp), if_neg (by simp)]
  have es : (decide ((tpR f n q).f = (tpR f n q).t) && (!decide ((tpR f n q).k = 1 ∨ (tpR f n q).k = 14) && !decide ((tpR f n q).k = 2 ∨ (tpR f n q).k = 3 ∨ (tpR f n q).k = 15))) = false := by
    show (decide (f = 0) && (!decide ((15 : Int) = 1 ∨ (15 : Int) = 14) && !decide ((15 : Int) = 2 ∨ (15 : Int) = 3 ∨ (15 : Int) = 15))) = false
    simp
  rw [es, if_neg (by simp)]
/-- A word that the client asked for. -/
def Gs.told (s : Gs) (mm : Ms) (b : Int) : Gs := { s with x := s.x.told mm, n2 := b }
set_option maxRecDepth 1000000 in
theorem told_gt {G P : Nat} {s : Gs} {tl : List UInt8} {b m : Int} {cs : List Comp} {w w0 : World} (f n q : Int) (h : Gt G P s tl b m cs w) (E : Evs cs) (hD : ∀ W, All cs W → Cd W) (hin : inC w0 ∈ cs) (hT : Tab w0) (hF : Fld w0)
    (ht : s.x.id = 0) (hw : s.x.qu.wts = true) (hq : s.x.qu.num = q) (hl : s.x.least ≤ n) (q1 : 1 ≤ q) (q2 : q ≤ 1099511627776) (hf : 0 ≤ f ∧ f < 3) (hn3 : s.x.n = 3) (hn : 0 ≤ n ∧ n < 1099511627776)
    (I : PxI s.x m s.n1 s.n2) (hb : 1 ≤ b ∧ b ≤ m) (hno : ∀ q ∈ s.ws, 0 ≤ q.no ∧ q.no ≤ 4611686018427387904) (hws : s.ws.length ≤ 16) (hu : 0 ≤ s.uw ∧ s.uw ≤ 4611686018427387904) (htl : tl.length ≤ 40000000000000) :
    Calls Tryz.prog 20 #[.pointer (some ⟨G, 0, none⟩), .agg (tpR f n q).cells.toArray] w fun e w' => ∃ v', e = .returned v' ∧ Gt G P (ansM m (s.told (tpR f n q) b) true f n).s (tl ++ (ansM m (s.told (tpR f n q) b) true f n).tl) b m (msC v' (ansM m (s.told (tpR f n q) b) true f n).ms :: cs) w' := by
  have hC := check_of 3 (Or.inl rfl) (tpR f n q) hT hF (tpR_ml f n q w0)
  rw [tpR_E hf hn q1 q2] at hC
  refine step_gt (s' := s.told (tpR f n q) b) (nd := f) true (tpR f n q) h E hD ?_ ?_ hno hws hu ⟨hn.1, by show n ≤ _; omega⟩ ⟨hf.1, by omega⟩ htl
  · intro W ds hG
    obtain ⟨t, u, z, A⟩ := hG
    refine (step_toldV (w0 := w0) (Gt.px_in A) (by simp [hin]) (tpR f n q) ht.symm rfl (by rw [hw, hq]; show (true && (q == q)) = true; simp) hl (tpR_copV f n q w0) (by rw [hn3]; exact hC)).mono ?_
    rintro e w' ⟨rfl, hA⟩
    exact ⟨rfl, t, u, z, hA.perm (List.perm_append_comm_assoc (pxL P (s.x.told (tpR f n q)) b m s.n1 b) [blkC G (gtV s P t u z) 79, ownC 5 t (cellsB s.tx), ownC 5 z (cellsB tl), wsC P u s.ws] (ds ++ cs))⟩
  · obtain ⟨i1, i2, i3, i4, i5, i6, i7⟩ := I
    exact ⟨i1, i2, i3, i4, i5, hb, i7⟩
end Go.Proofs.YtdhkdniddjnigaaGreatDoor

namespace Go.Proofs.YtdhkdniddjnigaaGreatDoor
open Go.RowKit
set_option linter.unusedVariables false

/-- Between two lines: nothing is fed, nothing waits, nothing is under way. -/
structure Idle (s : Gs) (u : Int) : Prop where
  no : s.no = u
  tx : s.tx = []
  lg : s.long = false
  uw : s.uw = 0
  ws : s.ws = []
  n : s.x.n = 3
  id : s.x.id = 0
  r : s.x.rq.wts = false
  q : s.x.qu.wts = false
  I : PxI s.x 64 s.n1 s.n2
  sn : 0 ≤ s.x.seen ∧ s.x.seen < 1099511627776
/-- A request or a question of line 'no' is under way. -/
structure Busy (s : Gs) (u : Int) (mm : Ms) : Prop where
  no : s.no = u + 1
  tx : s.tx = []
  lg : s.long = false
  uw : s.uw = u
  ws : s.ws = []
  n : s.x.n = 3
  id : s.x.id = 0
  I : PxI s.x 64 s.n1 s.n2
  sn : 0 ≤ s.x.seen ∧ s.x.seen < 1099511627776
  what : (mm.k = 1 ∧ mm.q = s.x.rq.num ∧ 1 ≤ s.x.rq.num ∧ s.x.rq.wts = true ∧ s.x.qu.wts = false) ∨ (mm.k = 14 ∧ mm.q = s.x.qu.num ∧ 1 ≤ s.x.qu.num ∧ s.x.qu.wts = true ∧ s.x.rq.wts = false ∧ mm.n = s.x.least ∧ 0 ≤ mm.n ∧ mm.n < 1099511627776 ∧ 0 ≤ mm.t ∧ mm.t < 3)
theorem bg_busy {s : Gs} {no : Int} (h : Idle s no) (q : Wi) (hq : q.no = no) (he : bgE s.x q = 0) : Busy (nxtM (bgS 64 s q [])) no (bgM s.x q s.n1 s.n2) := by
  have I2 := h.I.bg q he
  have i3 := h.I.rq
  have i4 := h.I.qu
  have hsn := h.sn
  unfold bgE at he
  by_cases hc : q.chk = 0
  · rw [if_neg (by simp [hc])] at he
    cases ha : q.ask with
    | true =>
      rw [ha] at he
      simp only [if_true] at he
      by_cases h6 : 6 ≤ q.o.k ∧ q.o.k ≤ 8
      · rw [if_neg (by simpa using h6)] at he
        by_cases hw : q.who < 0 ∨ s.x.n ≤ q.who
        · rw [if_pos hw] at he; simp at he
        · rw [if_neg hw] at he
          have hx : bgX s.x q s.n1 s.n2 = s.x.asked q.o.k ⟨q.o.nm.toArray⟩ ⟨q.o.tx.toArray⟩ (q.o.n : Int) (q.o.m : Int) s.n2 q.who := by unfold bgX; rw [ha]; rfl
          have hM : bgM s.x q s.n1 s.n2 = asM s.x.id q.who s.x.seen (bgX s.x q s.n1 s.n2).qu := by unfold bgM; rw [ha]; rfl
          have e1 : bg1 64 s.n1 q = s.n1 := by unfold bg1; rw [ha]; rfl
          have h3 := h.n
          rw [hM]
          refine ⟨by show s.no + 1 = no + 1; rw [h.no], rfl, rfl, hq, rfl, ?_, ?_, I2, ?_, Or.inr ⟨rfl, rfl, ?_, ?_, ?_, ?_, hsn.1, hsn.2, by show 0 ≤ q.who; omega, by show q.who < 3; omega⟩⟩
          · show (bgX s.x q s.n1 s.n2).n = 3; rw [hx]; exact h.n
          · show (bgX s.x q s.n1 s.n2).id = 0; rw [hx]; exact h.id
          · show 0 ≤ (bgX s.x q s.n1 s.n2).seen ∧ (bgX s.x q s.n1 s.n2).seen < 1099511627776; rw [hx]; exact hsn
          · show 1 ≤ (bgX s.x q s.n1 s.n2).qu.num; rw [hx]; show 1 ≤ s.x.qu.num + 1; omega
          · show (bgX s.x q s.n1 s.n2).qu.wts = true; rw [hx]; rfl
          · show (bgX s.x q s.n1 s.n2).rq.wts = false; rw [hx]; exact h.r
          · show s.x.seen = (bgX s.x q s.n1 s.n2).least; rw [hx]; rfl
      · rw [if_pos (by simpa using h6)] at he; simp at he
    | false =>
      have hx : bgX s.x q s.n1 s.n2 = s.x.sub q.o.k ⟨q.o.nm.toArray⟩ ⟨q.o.tx.toArray⟩ (q.o.n : Int) (q.o.m : Int) s.n1 := by unfold bgX; rw [ha]; rfl
      have hM : bgM s.x q s.n1 s.n2 = rqM s.x.id (s.x.view.tmod s.x.n) (bgX s.x q s.n1 s.n2).rq := by unfold bgM; rw [ha]; rfl
      rw [hM]
      refine ⟨by show s.no + 1 = no + 1; rw [h.no], rfl, rfl, hq, rfl, ?_, ?_, I2, ?_, Or.inl ⟨rfl, rfl, ?_, ?_, ?_⟩⟩
      · show (bgX s.x q s.n1 s.n2).n = 3; rw [hx]; exact h.n
      · show (bgX s.x q s.n1 s.n2).id = 0; rw [hx]; exact h.id
      · show 0 ≤ (bgX s.x q s.n1 s.n2).seen ∧ (bgX s.x q s.n1 s.n2).seen < 1099511627776; rw [hx]; exact hsn
      · show 1 ≤ (bgX s.x q s.n1 s.n2).rq.num; rw [hx]; show 1 ≤ s.x.rq.num + 1; omega
      · show (bgX s.x q s.n1 s.n2).rq.wts = true; rw [hx]; rfl
      · show (bgX s.x q s.n1 s.n2).qu.wts = false; rw [hx]; exact h.q
  · rw [if_pos hc] at he; exact absurd he hc
/-- What a line does at a gate where nothing waits. -/
def LineR (s : Gs) (u : Int) (F : Go) : Prop := (F.ms = [] ∧ Idle F.s (u + 1) ∧ (F.tl = [] ∨ ∃ e, 0 ≤ e ∧ e ≤ 4611686018427387904 ∧ F.tl = refL u e)) ∨ (∃ mm, F.ms = [mm] ∧ F.tl = [] ∧ Busy F.s u mm)
theorem addM_same (s : Gs) (p : List UInt8) : (addM s p).no = s.no ∧ (addM s p).uw = s.uw ∧ (addM s p).ws = s.ws ∧ (addM s p).x = s.x ∧ (addM s p).n1 = s.n1 ∧ (addM s p).n2 = s.n2 := by
  unfold addM; split <;> exact ⟨rfl, rfl, rfl, rfl, rfl, rfl⟩
theorem idle_next {s : Gs} {u : Int} {p : List UInt8} (h : Idle s u) (ws : List Wi) (hws : ws = []) : Idle (nxtM { addM s p with ws := ws }) (u + 1) := by
  obtain ⟨a1, a2, a3, a4, a5, a6⟩ := addM_same s p
  subst hws
  exact ⟨by show (addM s p).no + 1 = u + 1; rw [a1, h.no], rfl, rfl, by show (addM s p).uw = 0; rw [a2]; exact h.uw, rfl, by show (addM s p).x.n = 3; rw [a4]; exact h.n, by show (addM s p).x.id = 0; rw [a4]; exact h.id, by show (addM s p).x.rq.wts = false; rw [a4]; exact h.r, by show (addM s p).x.qu.wts = false; rw [a4]; exact h.q, by show PxI (addM s p).x 64 (addM s p).n1 (addM s p).n2; rw [a4, a5, a6]; exact h.I, by show 0 ≤ (addM s p).x.seen ∧ (addM s p).x.seen < 1099511627776; rw [a4]; exact h.sn⟩
theorem idle_add {s : Gs} {u : Int} {p : List UInt8} (h : Idle s u) : (addM s p).ws = [] ∧ (addM s p).uw = 0 ∧ (addM s p).no = u := by
  obtain ⟨a1, a2, a3, _⟩ := addM_same s p
  exact ⟨by rw [a3]; exact h.ws, by rw [a2]; exact h.uw, by rw [a1]; exact h.no⟩
theorem eta_ws (s : Gs) (h : s.ws = []) : s = { s with ws := [] } := by cases s; simp only at h; subst h; rfl
theorem line_idle {s : Gs} {u : Int} {l : List UInt8} (h : Idle s u) (hl : (10 : UInt8) ∉ l) : LineR s u (feedM 64 s (l ++ [10])) := by
  have hE : ∀ e, readM (addM s l).tx (addM s l).long = .err e → 0 ≤ e ∧ e ≤ 4611686018427387904 := fun e he => by have := readM_err he; omega
  have hB : ∀ q : Wi, 0 ≤ bgE s.x q ∧ bgE s.x q ≤ 4611686018427387904 := fun q => by have := bgE_rng s.x q; omega
  have hok : s.ok := ⟨fun _ => h.tx, by rw [h.tx]; exact Nat.zero_le _⟩
  rw [feedM_piece hl hok]
  obtain ⟨b1, b2, b3⟩ := idle_add (p := l) h
  have e0 : feedM 64 (addM s l) [10] = ⟨nxtM (hearM 64 (addM s l)).s, (hearM 64 (addM s l)).ms, (hearM 64 (addM s l)).tl⟩ := by
    unfold feedM
    rw [if_pos rfl]
    simp [feedM]
  rw [e0]
  unfold hearM
  cases hr : readM (addM s l).tx (addM s l).long with
  | err e =>
    refine Or.inl ⟨rfl, ?_, Or.inr ⟨e, (hE e hr).1, (hE e hr).2, by show refL (addM s l).no e = _; rw [b3]⟩⟩
    show Idle (nxtM (addM s l)) (u + 1)
    rw [eta_ws _ b1]
    exact idle_next h _ rfl
  | none =>
    refine Or.inl ⟨rfl, ?_, Or.inl rfl⟩
    show Idle (nxtM (addM s l)) (u + 1)
    rw [eta_ws _ b1]
    exact idle_next h _ rfl
  | wish a w o =>
    obtain ⟨a1, a2, a3, a4, a5, a6⟩ := addM_same s l
    simp only
    rw [b1, if_neg (by simp)]
    have hg : goM 64 { addM s l with ws := [] ++ [⟨(addM s l).no, a, w, o⟩] } = goL 64 { addM s l with ws := [] ++ [⟨(addM s l).no, a, w, o⟩] } [⟨(addM s l).no, a, w, o⟩] := by
      unfold goM
      show (if (addM s l).uw = 0 then _ else _) = _
      rw [if_pos b2]
      rfl
    rw [hg]
    obtain ⟨q, hq⟩ : ∃ q : Wi, q = ⟨(addM s l).no, a, w, o⟩ := ⟨_, rfl⟩
    have hqn : q.no = u := by rw [hq]; exact b3
    rw [← hq]
    obtain ⟨s3, hs3⟩ : ∃ s3 : Gs, s3 = { addM s l with ws := [] ++ [q] } := ⟨_, rfl⟩
    rw [← hs3]
    have x3 : s3.x = s.x := by rw [hs3]; exact a4
    have y3 : s3.n1 = s.n1 := by rw [hs3]; exact a5
    have z3 : s3.n2 = s.n2 := by rw [hs3]; exact a6
    have n3 : s3.no = s.no := by rw [hs3]; exact a1
    by_cases he : bgE s3.x q = 0
    · rw [goL_yes he]
      refine Or.inr ⟨_, rfl, rfl, ?_⟩
      have e2 : nxtM (bgS 64 s3 q []) = nxtM (bgS 64 s q []) := by
        unfold nxtM bgS
        simp only [x3, y3, z3, n3]
      show Busy (nxtM (bgS 64 s3 q [])) u (bgM s3.x q s3.n1 s3.n2)
      rw [e2, x3, y3, z3]
      exact bg_busy h q hqn (by rw [← x3]; exact he)
    · rw [goL_no he]
      refine Or.inl ⟨rfl, ?_, Or.inr ⟨bgE s3.x q, ?_, ?_, ?_⟩⟩
      · show Idle (nxtM { s3 with ws := [] }) (u + 1)
        have e3 : ({ s3 with ws := [] } : Gs) = { addM s l with ws := [] } := by rw [hs3]
        rw [e3]
        exact idle_next h _ rfl
      · rw [x3]; exact (hB q).1
      · rw [x3]; exact (hB q).2
      · show refL q.no (bgE s3.x q) ++ [] = _
        rw [List.append_nil, hqn]
theorem ansM_none {s : Gs} {rd : Bool} {nd n : Int} (h : s.ws = []) : ansM 64 s rd nd n = ⟨{ s with uw := 0, ws := [] }, [], lnB s.uw (ansW rd nd n)⟩ := by
  have e : goM 64 { s with uw := 0 } = ⟨{ s with uw := 0, ws := [] }, [], []⟩ := by
    unfold goM
    show (if (0 : Int) = 0 then goL 64 { s with uw := 0 } s.ws else _) = _
    rw [if_pos rfl, h]
    rfl
  unfold ansM
  rw [e]
  simp
/-- Behind the answer to a request nothing is under way. -/
theorem busy_reply {s : Gs} {u : Int} {mm : Ms} {f v n q : Int} (h : Busy s u mm) (hk : mm.k = 1) (hn : 0 ≤ n ∧ n < 1099511627776) : (ansM 64 (s.reply (rpR f v n q) 4) false 0 n).ms = [] ∧ (ansM 64 (s.reply (rpR f v n q) 4) false 0 n).tl = lnB u (ansW false 0 n) ∧ Idle (ansM 64 (s.reply (rpR f v n q) 4) false 0 n).s (u + 1) := by
  rw [ansM_none (s := s.reply (rpR f v n q) 4) h.ws]
  obtain ⟨i1, i2, i3, i4, i5, i6, i7⟩ := h.I
  refine ⟨rfl, by show lnB s.uw _ = _; rw [h.uw], ⟨h.no, h.tx, h.lg, rfl, rfl, h.n, h.id, rfl, ?_, ⟨i1, Int.le_trans i2 (Int.le_max_left _ _), i3, i4, (show (1 : Int) ≤ 4 ∧ (4 : Int) ≤ 64 by decide), i6, i7⟩, ?_⟩⟩
  · show s.x.qu.wts = false
    rcases h.what with w | w
    · exact w.2.2.2.2
    · rw [hk] at w; exact absurd w.1 (by decide)
  · show 0 ≤ max s.x.seen n ∧ max s.x.seen n < 1099511627776
    have := h.sn
    omega
theorem busy_told {s : Gs} {u : Int} {mm : Ms} {f n q : Int} (h : Busy s u mm) (hk : mm.k = 14) (hn : 0 ≤ n ∧ n < 1099511627776) : (ansM 64 (s.told (tpR f n q) 4) true f n).ms = [] ∧ (ansM 64 (s.told (tpR f n q) 4) true f n).tl = lnB u (ansW true f n) ∧ Idle (ansM 64 (s.told (tpR f n q) 4) true f n).s (u + 1) := by
  rw [ansM_none (s := s.told (tpR f n q) 4) h.ws]
  obtain ⟨i1, i2, i3, i4, i5, i6, i7⟩ := h.I
  refine ⟨rfl, by show lnB s.uw _ = _; rw [h.uw], ⟨h.no, h.tx, h.lg, rfl, rfl, h.n, h.id, ?_, rfl, ⟨i1, i2, i3, i4, i5, (show (1 : Int) ≤ 4 ∧ (4 : Int) ≤ 64 by decide), i7⟩, ?_⟩⟩
  · show s.x.rq.wts = false
    rcases h.what with w | w
    · rw [hk] at w; exact absurd w.1 (by decide)
    · exact w.2.2.2.2.1
  · show 0 ≤ max s.x.seen n ∧ max s.x.seen n < 1099511627776
    have := h.sn
    omega
end Go.Proofs.YtdhkdniddjnigaaGreatDoor

namespace Go.Proofs.YtdhkdniddjnigaaGreatDoor
set_option linter.unusedVariables false

/-- What digits say. -/
def valD : Nat → List UInt8 → Nat
  | acc, [] => acc
  | acc, c :: r => valD (10 * acc + (c.toNat - 48)) r
theorem valD_append (a b : List UInt8) : ∀ acc, valD acc (a ++ b) = valD (valD acc a) b := by
  induction a with
  | nil => intro acc; rfl
  | cons c r ih => intro acc; exact ih _
theorem valD_ge : ∀ (l : List UInt8) (acc : Nat), acc ≤ valD acc l
  | [], acc => Nat.le_refl _
  | c :: r, acc => Nat.le_trans (show acc ≤ 10 * acc + (c.toNat - 48) by omega) (valD_ge r _)
theorem valD_take (l : List UInt8) (j : Nat) : valD 0 (l.take j) ≤ valD 0 l := by
  conv => rhs; rw [← List.take_append_drop j l, valD_append]
  exact valD_ge _ _
theorem valD_digits : ∀ v : Nat, valD 0 (Lib.decDigits v) = v := by
  intro v
  induction v using Nat.strongRecOn with
  | _ v ih =>
    rw [Lib.decDigits]
    split
    · rename_i h
      show 10 * 0 + ((UInt8.ofNat (48 + v)).toNat - 48) = v
      rw [toNat_dig h]; omega
    · rename_i h
      rw [valD_append, ih (v / 10) (by omega)]
      show 10 * (v / 10) + ((UInt8.ofNat (48 + v % 10)).toNat - 48) = v
      rw [toNat_dig (by omega)]; omega
theorem digits_all : ∀ v : Nat, ∀ c ∈ Lib.decDigits v, 48 ≤ c.toNat ∧ c.toNat ≤ 57 := by
  intro v
  induction v using Nat.strongRecOn with
  | _ v ih =>
    rw [Lib.decDigits]
    split
    · rename_i h
      intro c hc
      simp only [List.mem_singleton] at hc
      subst hc
      rw [toNat_dig h]; omega
    · rename_i h
      intro c hc
      rcases List.mem_append.1 hc with h1 | h1
      · exact ih (v / 10) (by omega) c h1
      · simp only [List.mem_singleton] at h1
        subst h1
        rw [toNat_dig (by omega)]; omega
theorem digits_bare (v : Nat) : isBareW (Lib.decDigits v) = true :=
  decide_eq_true ⟨digits_ne v, fun b hb => by
    have := digits_all v b hb
    exact decide_eq_true (Or.inr (Or.inr (Or.inl this)))⟩
/-- No word as it is written holds a line's end. -/
theorem wrtW_no (x : List UInt8) : (10 : UInt8) ∉ wrtW x := by
  unfold wrtW
  split
  · rename_i h
    intro hm
    exact absurd ((bareW_all h).2 _ hm) (by decide)
  · intro hm
    rcases List.mem_cons.1 hm with h1 | h1
    · exact absurd h1 (by decide)
    · rcases List.mem_append.1 h1 with h2 | h2
      · unfold escW at h2
        obtain ⟨b, _, hb⟩ := List.mem_flatMap.1 h2
        unfold escB at hb
        split at hb
        · rename_i hp
          split at hb
          · simp only [List.mem_cons, List.not_mem_nil, or_false] at hb
            rcases hb with hb | hb
            · exact absurd hb (by decide)
            · rw [← hb] at hp; exact absurd hp (by decide)
          · simp only [List.mem_singleton] at hb
            rw [← hb] at hp; exact absurd hp (by decide)
        · have hx : ∀ n, n < 16 → (10 : UInt8) ≠ hexD n := by
            intro n hn e
            have := congrArg UInt8.toNat e
            rw [hexD_nat hn] at this
            have h10 : (10 : UInt8).toNat = 10 := rfl
            rw [h10] at this
            split at this <;> omega
          have hb2 := b.toNat_lt
          simp only [List.mem_cons, List.not_mem_nil, or_false] at hb
          rcases hb with hb | hb | hb | hb
          · exact absurd hb (by decide)
          · exact absurd hb (by decide)
          · exact hx _ (by omega) hb
          · exact hx _ (by omega) hb
      · simp only [List.mem_singleton] at h2
        exact absurd h2 (by decide)
theorem tailW_no (l : Ws) : (10 : UInt8) ∉ tailW l := by
  unfold tailW
  intro hm
  obtain ⟨b, _, hb⟩ := List.mem_flatMap.1 hm
  rcases List.mem_cons.1 hb with h1 | h1
  · exact absurd h1 (by decide)
  · exact wrtW_no _ h1
/-- Lines that are told: their numbers rise, above the first, up to the second. -/
inductive Told : Nat → Nat → List UInt8 → Prop where
  | nil {a b : Nat} : Told a b []
  | line {a b u : Nat} {r more : List UInt8} (h1 : a < u) (h2 : u ≤ b) (h3 : (10 : UInt8) ∉ r) (h : Told u b more) : Told a b (Lib.decDigits u ++ (32 :: (r ++ (10 :: more))))
theorem Told.more {a b c : Nat} {l : List UInt8} (h : Told a b l) (hb : b ≤ c) : Told a c l := by
  induction h with
  | nil => exact .nil
  | line h1 h2 h3 h ih => exact .line h1 (Nat.le_trans h2 hb) h3 (ih hb)
theorem Told.last {a b u : Nat} {l r : List UInt8} (h : Told a b l) (ha : a < u) (hb : b < u) (hr : (10 : UInt8) ∉ r) : Told a u (l ++ (Lib.decDigits u ++ (32 :: (r ++ [10])))) := by
  induction h with
  | nil => exact .line ha (Nat.le_refl _) hr .nil
  | line h1 h2 h3 h ih =>
    have := Told.line h1 (Nat.le_trans h2 (Nat.le_of_lt hb)) h3 (ih (by omega) hb)
    simpa [List.append_assoc] using this
theorem line_form (u : Nat) (x : List UInt8) (ws : Ws) : joinW (Lib.decDigits u :: x :: ws) ++ [10] = Lib.decDigits u ++ (32 :: ((wrtW x ++ tailW ws) ++ [10])) := by
  show (wrtW (Lib.decDigits u) ++ tailW (x :: ws)) ++ [10] = _
  have e : wrtW (Lib.decDigits u) = Lib.decDigits u := by unfold wrtW; rw [if_pos (digits_bare u)]
  have e2 : tailW (x :: ws) = 32 :: (wrtW x ++ tailW ws) := by simp [tailW]
  rw [e, e2]
  simp
theorem Told.snoc {a b u : Nat} {l : List UInt8} (h : Told a b l) (ha : a < u) (hb : b < u) (x : List UInt8) (ws : Ws) : Told a u (l ++ (joinW (Lib.decDigits u :: x :: ws) ++ [10])) := by
  rw [line_form]
  refine h.last ha hb ?_
  intro hm
  rcases List.mem_append.1 hm with h1 | h1
  · exact wrtW_no _ h1
  · exact tailW_no _ h1
theorem valD_succ (l : List UInt8) {j : Nat} {c : UInt8} (h : l[j]? = some c) : valD 0 (l.take (j + 1)) = 10 * valD 0 (l.take j) + (c.toNat - 48) := by
  rw [List.take_add_one, h, valD_append]
  rfl
/-- What stands at the head of lines that are told. -/
theorem Told.parts {a b : Nat} {l : List UInt8} (h : Told a b l) (hne : l ≠ []) : ∃ (u d e : Nat) (more : List UInt8), a < u ∧ u ≤ b ∧ 1 ≤ d ∧ d < e ∧ e + 1 ≤ l.length ∧ (l.drop (e + 1) = more ∧ Told u b more) ∧ (∃ V : Nat → Nat, V 0 = 0 ∧ V d = u ∧ ∀ j, j < d → ∃ c : UInt8, l[j]? = some c ∧ 48 ≤ c.toNat ∧ c.toNat ≤ 57 ∧ V (j + 1) = 10 * V j + (c.toNat - 48) ∧ V j ≤ u) ∧ l[d]? = some 32 ∧ (∀ j, j < e → ∃ c : UInt8, l[j]? = some c ∧ c ≠ 10) ∧ l[e]? = some 10 := by
  cases h with
  | nil => exact absurd rfl hne
  | @line _ _ u r more h1 h2 h3 h4 =>
    obtain ⟨D, hD⟩ : ∃ D, D = Lib.decDigits u := ⟨_, rfl⟩
    have hd : 1 ≤ D.length := by
      rw [hD]
      have := digits_ne u
      cases hx : Lib.decDigits u with
      | nil => exact absurd hx this
      | cons a b => simp
    have hall := digits_all u
    have hv := valD_digits u
    rw [← hD] at hall hv ⊢
    refine ⟨u, D.length, D.length + (1 + r.length), more, h1, h2, hd, by omega, ?_, ⟨?_, h4⟩, ⟨fun j => valD 0 (D.take j), rfl, ?_, fun j hj => ?_⟩, ?_, fun j hj => ?_, ?_⟩
    · simp only [List.length_append, List.length_cons]; omega
    · rw [show D ++ (32 :: (r ++ (10 :: more))) = (D ++ (32 :: (r ++ [10]))) ++ more by simp]
      exact List.drop_left' (by simp only [List.length_append, List.length_cons, List.length_nil]; omega)
    · show valD 0 (D.take D.length) = u
      rw [List.take_length]; exact hv
    · have hj2 : D[j]? = some D[j] := List.getElem?_eq_getElem hj
      refine ⟨D[j], by rw [List.getElem?_append_left hj, hj2], (hall _ (List.getElem_mem hj)).1, (hall _ (List.getElem_mem hj)).2, valD_succ D hj2, ?_⟩
      show valD 0 (D.take j) ≤ u
      exact Nat.le_trans (valD_take D j) (Nat.le_of_eq hv)
    · rw [List.getElem?_append_right (Nat.le_refl _), Nat.sub_self]; rfl
    · by_cases hj1 : j < D.length
      · have hj2 : D[j]? = some D[j] := List.getElem?_eq_getElem hj1
        refine ⟨D[j], by rw [List.getElem?_append_left hj1, hj2], fun e => ?_⟩
        have := (hall _ (List.getElem_mem hj1)).1
        rw [e] at this
        exact absurd this (by decide)
      · rw [List.getElem?_append_right (by omega)]
        by_cases hj2 : j - D.length = 0
        · rw [hj2]; exact ⟨32, rfl, by decide⟩
        · obtain ⟨i, hi⟩ : ∃ i, j - D.length = i + 1 := ⟨j - D.length - 1, by omega⟩
          have hir : i < r.length := by omega
          rw [hi, List.getElem?_cons_succ, List.getElem?_append_left hir, List.getElem?_eq_getElem hir]
          exact ⟨_, rfl, fun e => h3 (e ▸ List.getElem_mem hir)⟩
    · rw [List.getElem?_append_right (by omega), show D.length + (1 + r.length) - D.length = r.length + 1 by omega, List.getElem?_cons_succ, List.getElem?_append_right (Nat.le_refl _), Nat.sub_self]
      rfl
end Go.Proofs.YtdhkdniddjnigaaGreatDoor

namespace Go.Proofs.YtdhkdniddjnigaaGreatDoor
open Go.RowKit
set_option linter.unusedVariables false

/-- How it stands while a line is answered. -/
def Rnd (k : Nat) (s : Gs) (tl : List UInt8) (st : Nat) (ms : List Ms) : Prop :=
  (ms = [] ∧ Idle s ((k + 2 : Nat) : Int) ∧ Told 0 (k + 1) tl) ∨ (∃ mm, ms = [mm] ∧ st = 0 ∧ Busy s ((k + 1 : Nat) : Int) mm ∧ Told 0 k tl)
theorem lnB_told {k : Nat} {tl : List UInt8} (T : Told 0 k tl) (x : List UInt8) (ws : Ws) : Told 0 (k + 1) (tl ++ lnB ((k + 1 : Nat) : Int) (x :: ws)) := by
  unfold lnB
  rw [itoa_nat]
  exact T.snoc (Nat.succ_pos k) (Nat.lt_succ_self k) x ws
theorem lnB_len (no : Int) (l : Ws) : (lnB no l).length ≤ lenJ (Lib.itoa no :: l) + 1 := by
  unfold lnB
  rw [List.length_append]
  exact Nat.add_le_add_right (joinW_le _) 1
theorem refL_lenE {no e : Int} (h0 : 0 ≤ no) (h1 : no ≤ 9223372036854775807) (e0 : 0 ≤ e) (e1 : e ≤ 9223372036854775807) : (refL no e).length ≤ 200000 := by
  have h := lnB_len no [refuB, Lib.itoa e]
  have a := itoa_len h0 h1
  have b := itoa_len e0 e1
  unfold refL
  simp only [lenJ, List.map_cons, List.map_nil, List.sum_cons, List.sum_nil, refuB, List.length_cons, List.length_nil] at h ⊢
  omega
theorem feed_rnd {k : Nat} {s : Gs} {tl l : List UInt8} (h : Idle s ((k + 1 : Nat) : Int)) (hk : k ≤ 100000000) (hl : (10 : UInt8) ∉ l) (T : Told 0 k tl) : Rnd k (feedM 64 s (l ++ [10])).s (tl ++ (feedM 64 s (l ++ [10])).tl) 0 (feedM 64 s (l ++ [10])).ms ∧ (tl ++ (feedM 64 s (l ++ [10])).tl).length ≤ tl.length + 200000 := by
  rcases line_idle h hl with ⟨h1, h2, h3 | ⟨e, e0, e1, h3⟩⟩ | ⟨mm, h1, h2, h3⟩
  · rw [h1, h3, List.append_nil]
    exact ⟨Or.inl ⟨rfl, h2, T.more (Nat.le_succ k)⟩, Nat.le_add_right _ _⟩
  · rw [h1, h3]
    refine ⟨Or.inl ⟨rfl, h2, lnB_told T _ _⟩, ?_⟩
    rw [List.length_append]
    exact Nat.add_le_add_left (refL_lenE (by omega) (by omega) e0 (by omega)) _
  · rw [h1, h2, List.append_nil]
    exact ⟨Or.inr ⟨mm, rfl, rfl, h3, T⟩, Nat.le_add_right _ _⟩
/-- What is answered to a message. -/
def RM (mm : Ms) : Ms := if mm.k = 14 then tpR mm.t mm.n mm.q else rpR 2 0 1 mm.q
theorem ans_told {k : Nat} {tl : List UInt8} (T : Told 0 k tl) (hk : k ≤ 100000000) (rd : Bool) {nd n : Int} (n0 : 0 ≤ n) (n1 : n ≤ 9223372036854775807) (d0 : 0 ≤ nd) (d1 : nd ≤ 9223372036854775807) : Told 0 (k + 1) (tl ++ lnB ((k + 1 : Nat) : Int) (ansW rd nd n)) ∧ (tl ++ lnB ((k + 1 : Nat) : Int) (ansW rd nd n)).length ≤ tl.length + 200000 := by
  refine ⟨?_, ?_⟩
  · unfold ansW
    cases rd
    · exact lnB_told T _ _
    · exact lnB_told T _ _
  · have h1 := (ansW_len (rd := rd) n0 n1 d0 d1 (no := ((k + 1 : Nat) : Int)) (by omega) (by omega)).2
    have h2 := lnB_len ((k + 1 : Nat) : Int) (ansW rd nd n)
    rw [List.length_append]
    omega
set_option maxRecDepth 100000 in
theorem step_busyE {G P k : Nat} {s : Gs} {tl : List UInt8} {mm : Ms} {cs : List Comp} {w w0 : World} (h : Gt G P s tl 4 64 cs w) (E : Evs cs) (hD : ∀ W, All cs W → Cd W) (hin : inC w0 ∈ cs) (hT : Tab w0) (hF : Fld w0) (B : Busy s ((k + 1 : Nat) : Int) mm) (T : Told 0 k tl) (hk : k ≤ 100000000) (htl : tl.length ≤ 40000000000000) :
    Calls Tryz.prog 20 #[.pointer (some ⟨G, 0, none⟩), .agg (RM mm).cells.toArray] w fun e w' => ∃ a c s' tl', e = .returned (.slice a 0 c) ∧ Idle s' ((k + 2 : Nat) : Int) ∧ Told 0 (k + 1) tl' ∧ tl'.length ≤ tl.length + 200000 ∧ Gt G P s' tl' 4 64 (msC (.slice a 0 c) [] :: cs) w' := by
  have hno : ∀ q ∈ s.ws, 0 ≤ q.no ∧ q.no ≤ 4611686018427387904 := fun q hq => by rw [B.ws] at hq; cases hq
  have hws : s.ws.length ≤ 16 := by rw [B.ws]; exact Nat.zero_le _
  have hu : 0 ≤ s.uw ∧ s.uw ≤ 4611686018427387904 := by rw [B.uw]; omega
  obtain ⟨i1, i2, i3, i4, i5, i6, i7⟩ := id B.I
  rcases id B.what with ⟨hk1, hq, q1, w1, w2⟩ | ⟨hk1, hq, q1, w1, w2, hn, hn0, hn1, ht0, ht1⟩
  · have e : RM mm = rpR 2 0 1 mm.q := by unfold RM; rw [hk1, if_neg (by decide)]
    rw [e]
    obtain ⟨a1, a2, a3⟩ := busy_reply (f := 2) (v := 0) (n := 1) (q := mm.q) B hk1 (by decide)
    refine (reply_gt (w0 := w0) 2 0 1 mm.q h E hD hin hT hF B.id w1 hq.symm (by omega) (by omega) (by decide) B.n (by decide) (by decide) B.I (by decide) hno hws hu htl).mono ?_
    rintro e w' ⟨v', rfl, hG⟩
    rw [a1, a2] at hG
    obtain ⟨a, c, rfl⟩ := owns_form hG.rest.1.2.1
    obtain ⟨t1, t2⟩ := ans_told T hk false (nd := 0) (n := 1) (by decide) (by decide) (by decide) (by decide)
    exact ⟨a, c, _, _, rfl, a3, t1, t2, hG⟩
  · have e : RM mm = tpR mm.t mm.n mm.q := by unfold RM; rw [hk1, if_pos rfl]
    rw [e]
    obtain ⟨a1, a2, a3⟩ := busy_told (f := mm.t) (n := mm.n) (q := mm.q) B hk1 ⟨hn0, hn1⟩
    refine (told_gt (w0 := w0) mm.t mm.n mm.q h E hD hin hT hF B.id w1 hq.symm (by omega) (by omega) (by omega) ⟨ht0, ht1⟩ B.n ⟨hn0, hn1⟩ B.I (by decide) hno hws hu htl).mono ?_
    rintro e w' ⟨v', rfl, hG⟩
    rw [a1, a2] at hG
    obtain ⟨a, c, rfl⟩ := owns_form hG.rest.1.2.1
    obtain ⟨t1, t2⟩ := ans_told T hk true (nd := mm.t) (n := mm.n) hn0 (by omega) ht0 (by omega)
    exact ⟨a, c, _, _, rfl, a3, t1, t2, hG⟩
theorem feed_line {G P k : Nat} {s : Gs} {tl l : List UInt8} {cs : List Comp} {w : World} {v : Value} (h : Gt G P s tl 4 64 cs w) (E : Evs cs) (I : Idle s ((k + 1 : Nat) : Int)) (T : Told 0 k tl) (hR : ∀ W, All cs W → Reads W v (l ++ [10])) (hl : l.length ≤ 900000000) (h10 : (10 : UInt8) ∉ l) (hk : k ≤ 100000000) (ht : tl.length ≤ 10000000000000) :
    Calls Tryz.prog 14 #[.pointer (some ⟨G, 0, none⟩), v] w fun e w' => ∃ a c s' tl' ms, e = .returned (.slice a (List.length (α := Ms) ms) c) ∧ Rnd k s' tl' 0 ms ∧ tl'.length ≤ tl.length + 200000 ∧ Gt G P s' tl' 4 64 (msC (.slice a ms.length c) ms :: cs) w' := by
  have hI : GsI s 64 200000000 := ⟨⟨fun _ => I.tx, by rw [I.tx]; exact Nat.zero_le _⟩, I.I, by rw [I.no]; omega, by rw [I.no]; omega, fun q hq => (by rw [I.ws] at hq; cases hq), by rw [I.ws]; exact Nat.zero_le _⟩
  obtain ⟨r1, r2⟩ := feed_rnd (l := l) I hk h10 T
  refine (feed_gt (l := l ++ [10]) h E hI hR (by simp; omega) (by decide) ht).mono ?_
  rintro e w' ⟨v', rfl, hG⟩
  obtain ⟨a, c, rfl⟩ := owns_form hG.rest.1.2.1
  exact ⟨a, c, _, _, _, rfl, r1, r2, hG⟩
theorem rnd_len {k : Nat} {s : Gs} {tl : List UInt8} {st : Nat} {ms : List Ms} (h : Rnd k s tl st ms) : (ms.length = 0 → ms = [] ∧ Idle s ((k + 2 : Nat) : Int) ∧ Told 0 (k + 1) tl) ∧ (ms.length ≠ 0 → ∃ mm, ms = [mm] ∧ st = 0 ∧ Busy s ((k + 1 : Nat) : Int) mm ∧ Told 0 k tl) := by
  rcases h with h | ⟨mm, h1, h2⟩
  · exact ⟨fun _ => h, fun hh => absurd (by rw [h.1]; rfl) hh⟩
  · exact ⟨fun hh => by rw [h1] at hh; simp at hh, fun _ => ⟨mm, h1, h2⟩⟩
end Go.Proofs.YtdhkdniddjnigaaGreatDoor

import Derived.Test.YtdhkdniddjnigaaGreatDoorHh
namespace Go.Proofs.YtdhkdniddjnigaaGreatDoor
open Go.RowKit
set_option linter.unusedVariables false

/-- The word that a question's asked node tells. -/
def tpR (f n q : Int) : Ms := ⟨15, f, 0, 0, n, 0, 0, 0, q, false, 0, ⟨#[]⟩, ⟨#[]⟩, 0, 0, 0, 0, none, 0, 0, none, 0, 0, 0, 0, none, 0, 0, none, 0, 0⟩
theorem tpR_ml (f n q : Int) (W : World) : Ml W (tpR f n q) [] [] [] [] :=
  ⟨⟨none, 0, rfl, Nat.le_refl _, Or.inl rfl⟩, fun i x hx => by simp at hx, fun i x hx => by simp at hx, fun i x hx => by simp at hx, rfl, rfl, rfl, rfl, Nat.zero_le _, Nat.zero_le _, Nat.zero_le _, Nat.zero_le _⟩
theorem tpR_copV (f n q : Int) (w0 : World) : CopV w0 (tpR f n q) none 0 0 := fun W hb => (copied_nil (w := W)).mono fun e w' ⟨he, hb'⟩ => ⟨he, hb'⟩
set_option maxRecDepth 100000 in
theorem tpR_E {f n q : Int} (hf : 0 ≤ f ∧ f < 3) (hn : 0 ≤ n ∧ n < 1099511627776) (h1 : 1 ≤ q) (hq : q ≤ 1099511627776) : chkM 3 (tpR f n q) (fldE (tpR f n q).k.toNat (tpR f n q).h ((tpR f n q).may [] [] [] []) (tpR f n q).nil) = 0 := by
  have e1 : fldE (tpR f n q).k.toNat (tpR f n q).h ((tpR f n q).may [] [] [] []) (tpR f n q).nil = 0 := by
    have a1 : inH 15 (tpR f n q).h (UInt8.toNat 75) = true := rfl
    have b1 : (tpR f n q).may [] [] [] [] (UInt8.toNat 75) = true := by
      show inR n 0 1099511627776 = true
      unfold inR; exact decide_eq_true ⟨hn.1, by omega⟩
    have a2 : inH 15 (tpR f n q).h (UInt8.toNat 81) = true := rfl
    have b2 : (tpR f n q).may [] [] [] [] (UInt8.toNat 81) = true := by
      show inR q 1 1099511627776 = true
      unfold inR; exact decide_eq_true ⟨h1, hq⟩
    have a3 : inH 15 (tpR f n q).h (UInt8.toNat 82) = true := rfl
    have b3 : (tpR f n q).may [] [] [] [] (UInt8.toNat 82) = true := by
      show (chkX 0 0 [] == 0) = true
      rfl
    have X2 : (allF.data.toList.all fun r => inH 15 (tpR f n q).h r.toNat || (tpR f n q).nil r.toNat) = true := by kernel_rfl
    show fldE 15 (tpR f n q).h ((tpR f n q).may [] [] [] []) (tpR f n q).nil = 0
    unfold fldE
    rw [show fldN.getD 15 [] = [75, 81, 82] from rfl, X2]
    simp only [List.find?, a1, b1, a2, b2, a3, b3]
    rfl
  rw [e1]
  unfold chkM endB Ms.slf
  rw [if_neg (fun h => h (Or.inl rfl)), if_neg (by show ¬ ¬ (1 ≤ (15 : Int) ∧ (15 : Int) ≤ 15); omega)]
  have ef : (if (decide ((tpR f n q).k = 1 ∨ (tpR f n q).k = 14)) = true then decide (0 ≤ (tpR f n q).f ∧ (tpR f n q).f ≤ 7) else decide (0 ≤ (tpR f n q).f ∧ (tpR f n q).f ≤ 3 - 1)) = true := by
    show (if (decide ((15 : Int) = 1 ∨ (15 : Int) = 14)) = true then decide (0 ≤ f ∧ f ≤ 7) else decide (0 ≤ f ∧ f ≤ 3 - 1)) = true
    rw [if_neg (by decide)]
    exact decide_eq_true ⟨hf.1, by omega⟩
  have et : (if (decide ((tpR f n q).k = 2 ∨ (tpR f n q).k = 3 ∨ (tpR f n q).k = 15)) = true then decide (0 ≤ (tpR f n q).t ∧ (tpR f n q).t ≤ 7) else decide (0 ≤ (tpR f n q).t ∧ (tpR f n q).t ≤ 3 - 1)) = true := by
    show (if (decide ((15 : Int) = 2 ∨ (15 : Int) = 3 ∨ (15 : Int) = 15)) = true then decide ((0 : Int) ≤ 0 ∧ (0 : Int) ≤ 7) else decide ((0 : Int) ≤ 0 ∧ (0 : Int) ≤ 3 - 1)) = true
    rw [if_pos (by decide)]
    rfl
  rw [ef, et, if_neg (by simp), if_neg (by simp)]
  have es : (decide ((tpR f n q).f = (tpR f n q).t) && (!decide ((tpR f n q).k = 1 ∨ (tpR f n q).k = 14) && !decide ((tpR f n q).k = 2 ∨ (tpR f n q).k = 3 ∨ (tpR f n q).k = 15))) = false := by
    show (decide (f = 0) && (!decide ((15 : Int) = 1 ∨ (15 : Int) = 14) && !decide ((15 : Int) = 2 ∨ (15 : Int) = 3 ∨ (15 : Int) = 15))) = false
    simp
  rw [es, if_neg (by simp)]
/-- A word that the client asked for. -/
def Gs.told (s : Gs) (mm : Ms) (b : Int) : Gs := { s with x := s.x.told mm, n2 := b }
set_option maxRecDepth 1000000 in
theorem told_gt {G P : Nat} {s : Gs} {tl : List UInt8} {b m : Int} {cs : List Comp} {w w0 : World} (f n q : Int) (h : Gt G P s tl b m cs w) (E : Evs cs) (hD : ∀ W, All cs W → Cd W) (hin : inC w0 ∈ cs) (hT : Tab w0) (hF : Fld w0)
    (ht : s.x.id = 0) (hw : s.x.qu.wts = true) (hq : s.x.qu.num = q) (hl : s.x.least ≤ n) (q1 : 1 ≤ q) (q2 : q ≤ 1099511627776) (hf : 0 ≤ f ∧ f < 3) (hn3 : s.x.n = 3) (hn : 0 ≤ n ∧ n < 1099511627776)
    (I : PxI s.x m s.n1 s.n2) (hb : 1 ≤ b ∧ b ≤ m) (hno : ∀ q ∈ s.ws, 0 ≤ q.no ∧ q.no ≤ 4611686018427387904) (hws : s.ws.length ≤ 16) (hu : 0 ≤ s.uw ∧ s.uw ≤ 4611686018427387904) (htl : tl.length ≤ 40000000000000) :
    Calls Tryz.prog 20 #[.pointer (some ⟨G, 0, none⟩), .agg (tpR f n q).cells.toArray] w fun e w' => ∃ v', e = .returned v' ∧ Gt G P (ansM m (s.told (tpR f n q) b) true f n).s (tl ++ (ansM m (s.told (tpR f n q) b) true f n).tl) b m (msC v' (ansM m (s.told (tpR f n q) b) true f n).ms :: cs) w' := by
  have hC := check_of 3 (Or.inl rfl) (tpR f n q) hT hF (tpR_ml f n q w0)
  rw [tpR_E hf hn q1 q2] at hC
  refine step_gt (s' := s.told (tpR f n q) b) (nd := f) true (tpR f n q) h E hD ?_ ?_ hno hws hu ⟨hn.1, by show n ≤ _; omega⟩ ⟨hf.1, by omega⟩ htl
  · intro W ds hG
    obtain ⟨t, u, z, A⟩ := hG
    refine (step_toldV (w0 := w0) (Gt.px_in A) (by simp [hin]) (tpR f n q) ht.symm rfl (by rw [hw, hq]; show (true && (q == q)) = true; simp) hl (tpR_copV f n q w0) (by rw [hn3]; exact hC)).mono ?_
    rintro e w' ⟨rfl, hA⟩
    exact ⟨rfl, t, u, z, hA.perm (List.perm_append_comm_assoc (pxL P (s.x.told (tpR f n q)) b m s.n1 b) [blkC G (gtV s P t u z) 79, ownC 5 t (cellsB s.tx), ownC 5 z (cellsB tl), wsC P u s.ws] (ds ++ cs))⟩
  · obtain ⟨i1, i2, i3, i4, i5, i6, i7⟩ := I
    exact ⟨i1, i2, i3, i4, i5, hb, i7⟩
end Go.Proofs.YtdhkdniddjnigaaGreatDoor

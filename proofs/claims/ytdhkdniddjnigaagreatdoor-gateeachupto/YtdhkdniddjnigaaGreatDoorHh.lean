import Derived.Test.YtdhkdniddjnigaaGreatDoorHg
import Derived.Test.YtdhkdniddjnigaaGreatDoorPo0
namespace Go.Proofs.YtdhkdniddjnigaaGreatDoor
open Go.RowKit
set_option linter.unusedVariables false

theorem rpR_copV (f v n q : Int) (w0 : World) : CopV w0 (rpR f v n q) none 0 0 := fun W hb => (copied_nil (w := W)).mono fun e w' ⟨he, hb'⟩ => ⟨he, hb'⟩
/-- A client inside a gate. -/
theorem Gt.px_in {G P : Nat} {s : Gs} {tl : List UInt8} {b m : Int} {t u v : Value} {cs : List Comp} {w : World} (A : All (gtL G P s tl b m t u v ++ cs) w) : All (pxL P s.x b m s.n1 s.n2 ++ ([blkC G (gtV s P t u v) 79, ownC 5 t (cellsB s.tx), ownC 5 v (cellsB tl), wsC P u s.ws] ++ cs)) w :=
  A.perm (List.perm_append_comm_assoc [blkC G (gtV s P t u v) 79, ownC 5 t (cellsB s.tx), ownC 5 v (cellsB tl), wsC P u s.ws] (pxL P s.x b m s.n1 s.n2) cs)
/-- A reply to what the client asks for. -/
def Gs.reply (s : Gs) (mm : Ms) (b : Int) : Gs := { s with x := s.x.reply mm, n1 := b }
set_option maxRecDepth 1000000 in
theorem reply_gt {G P : Nat} {s : Gs} {tl : List UInt8} {b m : Int} {cs : List Comp} {w w0 : World} (f v n q : Int) (h : Gt G P s tl b m cs w) (E : Evs cs) (hD : ∀ W, All cs W → Cd W) (hin : inC w0 ∈ cs) (hT : Tab w0) (hF : Fld w0)
    (ht : s.x.id = 0) (hw : s.x.rq.wts = true) (hq : s.x.rq.num = q) (q1 : 1 ≤ q) (q2 : q ≤ 1099511627776) (hf : 0 ≤ f ∧ f < 3) (hn3 : s.x.n = 3) (hv : 0 ≤ v ∧ v < 1099511627776) (hn : 0 ≤ n ∧ n < 1099511627776)
    (I : PxI s.x m s.n1 s.n2) (hb : 1 ≤ b ∧ b ≤ m) (hno : ∀ q ∈ s.ws, 0 ≤ q.no ∧ q.no ≤ 4611686018427387904) (hws : s.ws.length ≤ 16) (hu : 0 ≤ s.uw ∧ s.uw ≤ 4611686018427387904) (htl : tl.length ≤ 40000000000000) :
    Calls Tryz.prog 20 #[.pointer (some ⟨G, 0, none⟩), .agg (rpR f v n q).cells.toArray] w fun e w' => ∃ v', e = .returned v' ∧ Gt G P (ansM m (s.reply (rpR f v n q) b) false 0 n).s (tl ++ (ansM m (s.reply (rpR f v n q) b) false 0 n).tl) b m (msC v' (ansM m (s.reply (rpR f v n q) b) false 0 n).ms :: cs) w' := by
  have hE : chkM 3 (rpR f v n q) (fldE (rpR f v n q).k.toNat (rpR f v n q).h ((rpR f v n q).may [] [] [] []) (rpR f v n q).nil) = 0 := by
    rw [rpR_E (Or.inl rfl) hf hv hn q2, if_pos q1]
  have hC := check_of 3 (Or.inl rfl) (rpR f v n q) hT hF (rpR_ml f v n q w0)
  rw [hE] at hC
  refine step_gt (s' := s.reply (rpR f v n q) b) (nd := 0) false (rpR f v n q) h E hD ?_ ?_ hno hws hu ⟨hn.1, by show n ≤ _; omega⟩ ⟨Int.le_refl _, by omega⟩ htl
  · intro W ds hG
    obtain ⟨t, u, z, A⟩ := hG
    refine (step_replyV (w0 := w0) (Gt.px_in A) (by simp [hin]) (rpR f v n q) (rpR_copV f v n q w0) (by rw [hn3]; exact hC) ht.symm rfl hw hq).mono ?_
    rintro e w' ⟨rfl, hA⟩
    exact ⟨rfl, t, u, z, hA.perm (List.perm_append_comm_assoc (pxL P (s.x.reply (rpR f v n q)) b m b s.n2) [blkC G (gtV s P t u z) 79, ownC 5 t (cellsB s.tx), ownC 5 z (cellsB tl), wsC P u s.ws] (ds ++ cs))⟩
  · obtain ⟨i1, i2, i3, i4, i5, i6, i7⟩ := I
    exact ⟨i1, Int.le_trans i2 (Int.le_max_left _ _), i3, i4, hb, i6, i7⟩
end Go.Proofs.YtdhkdniddjnigaaGreatDoor

import Derived.Test.YtdhkdniddjnigaaGreatDoorMail22
namespace Go.Proofs.YtdhkdniddjnigaaGreatDoor
open Go.RowKit
set_option linter.unusedVariables false

theorem mayH {w : World} {b : Nat} : Calls Tryz.prog 126 #[.pointer (some ⟨b, 0, none⟩), .int .i32 72] w fun e w' => e = .returned (.bool true) ∧ w' = w := by
  go_enter Tryz.func126, Tryz.ntmps126
  go_wp2
  go_ret
  exact ⟨rfl, rfl⟩
set_option maxRecDepth 1000000 in
theorem mayE {w : World} {b : Nat} {m : Ms} {li : List ByteArray} {le lx : List Ent} {ls : List Sh} (hT : Tab w) (h : MsAt w b m) (hl : Ml w m li le ls lx) (hn : 1 ≤ m.n ∧ m.n ≤ 1099511627776) : Calls Tryz.prog 126 #[.pointer (some ⟨b, 0, none⟩), .int .i32 69] w fun e w' => e = .returned (.bool (m.eB le)) ∧ Below w.heap.size w w' := by
  have C := hid (ent107 hT h hl hn)
  generalize m.eB le = z at C ⊢
  clear h hl hT hn
  go_enter Tryz.func126, Tryz.ntmps126
  go_wp2_with fail
  refine C.out.mono ?_
  rintro e w1 ⟨rfl, B1⟩
  have B1 := hid B1
  go_wp2
  go_ret
  exact ⟨rfl, B1.out⟩
/-- May a field be? -/
def Ms.may (m : Ms) (li : List ByteArray) (le : List Ent) (ls : List Sh) (lx : List Ent) (r : Nat) : Bool :=
  if r = 86 then inR m.v 0 1099511627776 else if r = 75 then inR m.n (lstK m.k) 1099511627776 else if r = 67 then inR m.c 0 1099511627776
  else if r = 78 then inR m.o 0 m.v else if r = 76 then inR m.l 1 1099511627776 else if r = 81 then inR m.q 1 1099511627776
  else if r = 79 then m.oB else if r = 82 then chkX m.rc m.rn li == 0 else if r = 69 then m.eB le else if r = 71 then cgB m.cf m.cb ls lx else true
/-- Does nothing stand in a field? -/
def Ms.nil (m : Ms) (r : Nat) : Bool :=
  if r = 86 then m.v == 0 else if r = 75 then m.n == 0 else if r = 67 then m.c == 0 else if r = 78 then m.o == 0 else if r = 76 then m.l == 0
  else if r = 81 then m.q == 0 else if r = 72 then !m.h else if r = 79 then m.zO else if r = 82 then m.zR else if r = 69 then (m.el : Int) == 0 else m.zG
theorem only_four : ∀ k < 16, ∀ p < 6, (fldN.getD k [])[p]? = some 69 → k = 4 ∧ p = 3 := by decide
theorem fld_len : ∀ k < 16, (fldN.getD k []).length < 6 := by decide
theorem k_four (h : Bool) : inH 4 h 75 = true := by cases h <;> rfl
set_option maxRecDepth 1000000 in
/-- checkFields of any message. -/
theorem fields34 {w : World} {b k : Nat} {m : Ms} {li : List ByteArray} {le lx : List Ent} {ls : List Sh} (hT : Tab w) (hF : Fld w) (hM : MsAt w b m) (hl : Ml w m li le ls lx) (hk : k < 16) (hmk : m.k = k) :
    Calls Tryz.prog 94 #[.pointer (some ⟨b, 0, none⟩)] w fun e w' => e = .returned (.int .i64 (fldE k m.h (m.may li le ls lx) m.nil)) ∧ Below w.heap.size w w' := by
  have qw : ∀ (W : World) (f : Nat) (xs : Array Value) (v : Value), Calls Tryz.prog f xs W (fun e w' => e = .returned v ∧ w' = W) → Calls Tryz.prog f xs W (fun e w' => e = .returned v ∧ Below W.heap.size W w') := fun W f xs v h => h.mono fun e w' ⟨h1, h2⟩ => ⟨h1, by rw [h2]; exact Below.refl _ _⟩
  refine fields_any (m.may li le ls lx) m.nil hF hM hk hmk ?_ ?_
  · intro p r hr hin hbef W hW
    have hm := hM.under hW
    have hL := hl.later hW
    have hin2 := fld_in k r (List.mem_of_getElem? hr)
    have hin2 : r ∈ [(86 : UInt8), 75, 67, 78, 76, 81, 72, 79, 82, 69, 71] := hin2
    simp only [List.mem_cons, List.not_mem_nil, or_false] at hin2
    rcases hin2 with rfl | rfl | rfl | rfl | rfl | rfl | rfl | rfl | rfl | rfl | rfl
    · exact qw _ _ _ _ (mayV hm)
    · exact mayK hm
    · exact qw _ _ _ _ (mayC hm)
    · exact mayN hm
    · exact qw _ _ _ _ (mayL hm)
    · exact qw _ _ _ _ (mayQ hm)
    · exact qw _ _ _ _ mayH
    · exact mayOO (hT.below hW) hm
    · exact mayR hm hL
    · have hp : p < 6 := Nat.lt_trans (List.getElem?_eq_some_iff.1 hr).1 (fld_len k hk)
      obtain ⟨rfl, rfl⟩ := only_four k hk p hp hr
      have h1 := hbef 1 75 (by omega) rfl
      have h2 : inH 4 m.h (UInt8.toNat 75) = true := k_four m.h
      rw [h2] at h1
      have h3 : m.may li le ls lx (UInt8.toNat 75) = true := by
        cases h4 : m.may li le ls lx (UInt8.toNat 75) with
        | true => rfl
        | false => rw [h4] at h1; cases h1
      have h5 : inR m.n (lstK m.k) 1099511627776 = true := h3
      have hk4 : lstK m.k = 1 := by rw [hmk]; rfl
      rw [hk4] at h5
      have h6 := of_decide_eq_true h5
      exact mayE (hT.below hW) hm hL h6
    · exact mayG (hT.below hW) hm hL
  · intro r hr hin W hW
    have hm := hM.under hW
    have hin2 : r ∈ [(86 : UInt8), 75, 67, 78, 76, 81, 72, 79, 82, 69, 71] := hr
    simp only [List.mem_cons, List.not_mem_nil, or_false] at hin2
    rcases hin2 with rfl | rfl | rfl | rfl | rfl | rfl | rfl | rfl | rfl | rfl | rfl
    · exact qw _ _ _ _ (zeroV hm)
    · exact qw _ _ _ _ (zeroK hm)
    · exact qw _ _ _ _ (zeroC hm)
    · exact qw _ _ _ _ (zeroN hm)
    · exact qw _ _ _ _ (zeroL hm)
    · exact qw _ _ _ _ (zeroQ hm)
    · exact qw _ _ _ _ (zeroH hm)
    · exact qw _ _ _ _ (zeroO hm)
    · exact qw _ _ _ _ (zeroR hm)
    · exact qw _ _ _ _ (zeroE hm)
    · exact qw _ _ _ _ (zeroG hm)
end Go.Proofs.YtdhkdniddjnigaaGreatDoor

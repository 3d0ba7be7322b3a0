import Derived.Test.YtdhkdniddjnigaaGreatDoorRm3
namespace Go.Proofs.YtdhkdniddjnigaaGreatDoor
open Go.RowKit
set_option linter.unusedVariables false

/-- The document's order of errors. -/
def Ms.tgt (m : Ms) (k : Nat) (li : List ByteArray) (le : List Ent) (ls : List Sh) (lx : List Ent) : Int := if (inK k 86 && !inR m.v 0 1099511627776) = true then 113 else if m.numB k = false then 114 else if m.bodB k li le ls lx = false then 115 else if m.extB k = true then 116 else 0
set_option maxRecDepth 100000 in
theorem same_k2 (m : Ms) (li : List ByteArray) (le : List Ent) (ls : List Sh) (lx : List Ent) (hk : m.k = 2) : fldE 2 m.h (m.may li le ls lx) m.nil = m.tgt 2 li le ls lx := by
  have a0 : inH 2 m.h (UInt8.toNat 86) = true := rfl
  have b0 : m.may li le ls lx (UInt8.toNat 86) = inR m.v 0 1099511627776 := rfl
  have a1 : inH 2 m.h (UInt8.toNat 75) = true := rfl
  have b1 : m.may li le ls lx (UInt8.toNat 75) = inR m.n 0 1099511627776 := by show inR m.n (lstK m.k) 1099511627776 = _; rw [hk]; rfl
  have a2 : inH 2 m.h (UInt8.toNat 81) = true := rfl
  have b2 : m.may li le ls lx (UInt8.toNat 81) = inR m.q 1 1099511627776 := rfl
  have a3 : inH 2 m.h (UInt8.toNat 82) = true := rfl
  have b3 : m.may li le ls lx (UInt8.toNat 82) = (chkX m.rc m.rn li == 0) := rfl
  have N : m.numB 2 = (inR m.n 0 1099511627776 && (true && (true && (true && inR m.q 1 1099511627776)))) := rfl
  have Bo : m.bodB 2 li le ls lx = (true && ((chkX m.rc m.rn li == 0) && (true && true))) := by
    show ((!inK 2 79 || m.oB) && ((!inK 2 82 || chkX m.rc m.rn li == 0) && ((!inK 2 69 || m.eB le) && (!inH 2 m.h 71 || cgB m.cf m.cb ls lx)))) = _
    rfl
  have V : inK 2 86 = true := rfl
  unfold fldE Ms.tgt Ms.extB
  rw [show fldN.getD 2 [] = [86, 75, 81, 82] from rfl, N, Bo, V]
  generalize (allF.data.toList.all fun r => inH 2 m.h r.toNat || m.nil r.toNat) = x
  simp only [List.find?, a0, b0, a1, b1, a2, b2, a3, b3]
  clear a0 b0 a1 b1 a2 b2 a3 b3 N Bo V
  generalize inR m.v 0 1099511627776 = y0
  generalize inR m.n 0 1099511627776 = y1
  generalize inR m.q 1 1099511627776 = y2
  generalize (chkX m.rc m.rn li == 0) = y3
  cases x <;> cases y0 <;> cases y1 <;> cases y2 <;> cases y3 <;> rfl
end Go.Proofs.YtdhkdniddjnigaaGreatDoor

import Derived.Test.YthoppemjfdnibaaGreatDoorMail29
namespace Go.Proofs.YthoppemjfdnibaaGreatDoor
open Go.RowKit
set_option linter.unusedVariables false

/-- Is there something that its kind has not? -/
def Ms.extB (m : Ms) (k : Nat) : Bool := !(allF.data.toList.all fun r => inH k m.h r.toNat || m.nil r.toNat)
/-- The document's order of errors. -/
def Ms.tgt (m : Ms) (k : Nat) (li : List ByteArray) (le : List Ent) (ls : List Sh) (lx : List Ent) : Int := if (inK k 86 && !inR m.v 0 1099511627776) = true then 113 else if m.numB k = false then 114 else if m.bodB k li le ls lx = false then 115 else if m.extB k = true then 116 else 0
set_option maxRecDepth 100000 in
theorem same_k1 (m : Ms) (li : List ByteArray) (le : List Ent) (ls : List Sh) (lx : List Ent) (hk : m.k = 1) : fldE 1 m.h (m.may li le ls lx) m.nil = m.tgt 1 li le ls lx := by
  have a0 : inH 1 m.h (UInt8.toNat 81) = true := rfl
  have b0 : m.may li le ls lx (UInt8.toNat 81) = inR m.q 1 1099511627776 := rfl
  have a1 : inH 1 m.h (UInt8.toNat 79) = true := rfl
  have b1 : m.may li le ls lx (UInt8.toNat 79) = m.oB := rfl
  have N : m.numB 1 = (true && (true && (true && (true && inR m.q 1 1099511627776)))) := rfl
  have Bo : m.bodB 1 li le ls lx = (m.oB && (true && (true && true))) := by
    show ((!inK 1 79 || m.oB) && ((!inK 1 82 || chkX m.rc m.rn li == 0) && ((!inK 1 69 || m.eB le) && (!inH 1 m.h 71 || cgB m.cf m.cb ls lx)))) = _
    rfl
  have V : inK 1 86 = false := rfl
  unfold fldE Ms.tgt Ms.extB
  rw [show fldN.getD 1 [] = [81, 79] from rfl, N, Bo, V]
  generalize (allF.data.toList.all fun r => inH 1 m.h r.toNat || m.nil r.toNat) = x
  simp only [List.find?, a0, b0, a1, b1]
  clear a0 b0 a1 b1 N Bo V
  generalize inR m.v 0 1099511627776 = y0
  generalize inR m.q 1 1099511627776 = y1
  generalize m.oB = y2
  cases x <;> cases y0 <;> cases y1 <;> cases y2 <;> rfl
set_option maxRecDepth 100000 in
theorem same_k2 (m : Ms) (li : List ByteArray) (le : List Ent) (ls : List Sh) (lx : List Ent) (hk : m.k = 2) : fldE 2 m.h (m.may li le ls lx) m.nil = m.tgt 2 li le ls lx := by
  have a0 : inH 2 m.h (UInt8.toNat 86) = true := rfl
  have b0 : m.may li le ls lx (UInt8.toNat 86) = inR m.v 0 1099511627776 := rfl
  have a1 : inH 2 m.h (UInt8.toNat 75) = true := rfl
  have b1 : m.may li le ls lx (UInt8.toNat 75) = inR m.n 0 1099511627776 := by show inR m.n (lstK m.k) 1099511627776 = _; rw [hk]; rfl
  have a2 : inH 2 m.h (UInt8.toNat 81) = true := rfl
  have b2 : m.may li le ls lx (UInt8.toNat 81) = inR m.q 1 1099511627776 := rfl
  have a3 : inH 2 m.h (UInt8.toNat 82) = true := rfl
  have b3 : m.may li le ls lx (UInt8.toNat 82) = (chkX m.rc m.rn li == 0) := rfl
  have N : m.numB 2 = (inR m.n 0 1099511627776 && (true && (true && (true && inR m.q 1 1099511627776)))) := rfl
  have Bo : m.bodB 2 li le ls lx = (true && ((chkX m.rc m.rn li == 0) && (true && true))) := by
    show ((!inK 2 79 || m.oB) && ((!inK 2 82 || chkX m.rc m.rn li == 0) && ((!inK 2 69 || m.eB le) && (!inH 2 m.h 71 || cgB m.cf m.cb ls lx)))) = _
    rfl
  have V : inK 2 86 = true := rfl
  unfold fldE Ms.tgt Ms.extB
  rw [show fldN.getD 2 [] = [86, 75, 81, 82] from rfl, N, Bo, V]
  generalize (allF.data.toList.all fun r => inH 2 m.h r.toNat || m.nil r.toNat) = x
  simp only [List.find?, a0, b0, a1, b1, a2, b2, a3, b3]
  clear a0 b0 a1 b1 a2 b2 a3 b3 N Bo V
  generalize inR m.v 0 1099511627776 = y0
  generalize inR m.n 0 1099511627776 = y1
  generalize inR m.q 1 1099511627776 = y2
  generalize (chkX m.rc m.rn li == 0) = y3
  cases x <;> cases y0 <;> cases y1 <;> cases y2 <;> cases y3 <;> rfl
set_option maxRecDepth 100000 in
theorem same_k3 (m : Ms) (li : List ByteArray) (le : List Ent) (ls : List Sh) (lx : List Ent) (hk : m.k = 3) : fldE 3 m.h (m.may li le ls lx) m.nil = m.tgt 3 li le ls lx := by
  have a0 : inH 3 m.h (UInt8.toNat 86) = true := rfl
  have b0 : m.may li le ls lx (UInt8.toNat 86) = inR m.v 0 1099511627776 := rfl
  have a1 : inH 3 m.h (UInt8.toNat 81) = true := rfl
  have b1 : m.may li le ls lx (UInt8.toNat 81) = inR m.q 1 1099511627776 := rfl
  have N : m.numB 3 = (true && (true && (true && (true && inR m.q 1 1099511627776)))) := rfl
  have Bo : m.bodB 3 li le ls lx = (true && (true && (true && true))) := by
    show ((!inK 3 79 || m.oB) && ((!inK 3 82 || chkX m.rc m.rn li == 0) && ((!inK 3 69 || m.eB le) && (!inH 3 m.h 71 || cgB m.cf m.cb ls lx)))) = _
    rfl
  have V : inK 3 86 = true := rfl
  unfold fldE Ms.tgt Ms.extB
  rw [show fldN.getD 3 [] = [86, 81] from rfl, N, Bo, V]
  generalize (allF.data.toList.all fun r => inH 3 m.h r.toNat || m.nil r.toNat) = x
  simp only [List.find?, a0, b0, a1, b1]
  clear a0 b0 a1 b1 N Bo V
  generalize inR m.v 0 1099511627776 = y0
  generalize inR m.q 1 1099511627776 = y1
  cases x <;> cases y0 <;> cases y1 <;> rfl
set_option maxRecDepth 100000 in
theorem same_k4 (m : Ms) (li : List ByteArray) (le : List Ent) (ls : List Sh) (lx : List Ent) (hk : m.k = 4) : fldE 4 m.h (m.may li le ls lx) m.nil = m.tgt 4 li le ls lx := by
  have a0 : inH 4 m.h (UInt8.toNat 86) = true := rfl
  have b0 : m.may li le ls lx (UInt8.toNat 86) = inR m.v 0 1099511627776 := rfl
  have a1 : inH 4 m.h (UInt8.toNat 75) = true := rfl
  have b1 : m.may li le ls lx (UInt8.toNat 75) = inR m.n 1 1099511627776 := by show inR m.n (lstK m.k) 1099511627776 = _; rw [hk]; rfl
  have a2 : inH 4 m.h (UInt8.toNat 67) = true := rfl
  have b2 : m.may li le ls lx (UInt8.toNat 67) = inR m.c 0 1099511627776 := rfl
  have a3 : inH 4 m.h (UInt8.toNat 69) = true := rfl
  have b3 : m.may li le ls lx (UInt8.toNat 69) = m.eB le := rfl
  have N : m.numB 4 = (inR m.n 1 1099511627776 && (inR m.c 0 1099511627776 && (true && (true && true)))) := rfl
  have Bo : m.bodB 4 li le ls lx = (true && (true && (m.eB le && true))) := by
    show ((!inK 4 79 || m.oB) && ((!inK 4 82 || chkX m.rc m.rn li == 0) && ((!inK 4 69 || m.eB le) && (!inH 4 m.h 71 || cgB m.cf m.cb ls lx)))) = _
    rfl
  have V : inK 4 86 = true := rfl
  unfold fldE Ms.tgt Ms.extB
  rw [show fldN.getD 4 [] = [86, 75, 67, 69] from rfl, N, Bo, V]
  generalize (allF.data.toList.all fun r => inH 4 m.h r.toNat || m.nil r.toNat) = x
  simp only [List.find?, a0, b0, a1, b1, a2, b2, a3, b3]
  clear a0 b0 a1 b1 a2 b2 a3 b3 N Bo V
  generalize inR m.v 0 1099511627776 = y0
  generalize inR m.n 1 1099511627776 = y1
  generalize inR m.c 0 1099511627776 = y2
  generalize m.eB le = y3
  cases x <;> cases y0 <;> cases y1 <;> cases y2 <;> cases y3 <;> rfl
set_option maxRecDepth 100000 in
theorem same_k5 (m : Ms) (li : List ByteArray) (le : List Ent) (ls : List Sh) (lx : List Ent) (hk : m.k = 5) : fldE 5 m.h (m.may li le ls lx) m.nil = m.tgt 5 li le ls lx := by
  have a0 : inH 5 m.h (UInt8.toNat 86) = true := rfl
  have b0 : m.may li le ls lx (UInt8.toNat 86) = inR m.v 0 1099511627776 := rfl
  have a1 : inH 5 m.h (UInt8.toNat 75) = true := rfl
  have b1 : m.may li le ls lx (UInt8.toNat 75) = inR m.n 0 1099511627776 := by show inR m.n (lstK m.k) 1099511627776 = _; rw [hk]; rfl
  have N : m.numB 5 = (inR m.n 0 1099511627776 && (true && (true && (true && true)))) := rfl
  have Bo : m.bodB 5 li le ls lx = (true && (true && (true && true))) := by
    show ((!inK 5 79 || m.oB) && ((!inK 5 82 || chkX m.rc m.rn li == 0) && ((!inK 5 69 || m.eB le) && (!inH 5 m.h 71 || cgB m.cf m.cb ls lx)))) = _
    rfl
  have V : inK 5 86 = true := rfl
  unfold fldE Ms.tgt Ms.extB
  rw [show fldN.getD 5 [] = [86, 75] from rfl, N, Bo, V]
  generalize (allF.data.toList.all fun r => inH 5 m.h r.toNat || m.nil r.toNat) = x
  simp only [List.find?, a0, b0, a1, b1]
  clear a0 b0 a1 b1 N Bo V
  generalize inR m.v 0 1099511627776 = y0
  generalize inR m.n 0 1099511627776 = y1
  cases x <;> cases y0 <;> cases y1 <;> rfl
set_option maxRecDepth 100000 in
theorem same_k6 (m : Ms) (li : List ByteArray) (le : List Ent) (ls : List Sh) (lx : List Ent) (hk : m.k = 6) : fldE 6 m.h (m.may li le ls lx) m.nil = m.tgt 6 li le ls lx := by
  have a0 : inH 6 m.h (UInt8.toNat 86) = true := rfl
  have b0 : m.may li le ls lx (UInt8.toNat 86) = inR m.v 0 1099511627776 := rfl
  have a1 : inH 6 m.h (UInt8.toNat 75) = true := rfl
  have b1 : m.may li le ls lx (UInt8.toNat 75) = inR m.n 0 1099511627776 := by show inR m.n (lstK m.k) 1099511627776 = _; rw [hk]; rfl
  have a2 : inH 6 m.h (UInt8.toNat 67) = true := rfl
  have b2 : m.may li le ls lx (UInt8.toNat 67) = inR m.c 0 1099511627776 := rfl
  have N : m.numB 6 = (inR m.n 0 1099511627776 && (inR m.c 0 1099511627776 && (true && (true && true)))) := rfl
  have Bo : m.bodB 6 li le ls lx = (true && (true && (true && true))) := by
    show ((!inK 6 79 || m.oB) && ((!inK 6 82 || chkX m.rc m.rn li == 0) && ((!inK 6 69 || m.eB le) && (!inH 6 m.h 71 || cgB m.cf m.cb ls lx)))) = _
    rfl
  have V : inK 6 86 = true := rfl
  unfold fldE Ms.tgt Ms.extB
  rw [show fldN.getD 6 [] = [86, 75, 67] from rfl, N, Bo, V]
  generalize (allF.data.toList.all fun r => inH 6 m.h r.toNat || m.nil r.toNat) = x
  simp only [List.find?, a0, b0, a1, b1, a2, b2]
  clear a0 b0 a1 b1 a2 b2 N Bo V
  generalize inR m.v 0 1099511627776 = y0
  generalize inR m.n 0 1099511627776 = y1
  generalize inR m.c 0 1099511627776 = y2
  cases x <;> cases y0 <;> cases y1 <;> cases y2 <;> rfl
set_option maxRecDepth 100000 in
theorem same_k7 (m : Ms) (li : List ByteArray) (le : List Ent) (ls : List Sh) (lx : List Ent) (hk : m.k = 7) : fldE 7 m.h (m.may li le ls lx) m.nil = m.tgt 7 li le ls lx := by
  have a0 : inH 7 m.h (UInt8.toNat 86) = true := rfl
  have b0 : m.may li le ls lx (UInt8.toNat 86) = inR m.v 0 1099511627776 := rfl
  have N : m.numB 7 = (true && (true && (true && (true && true)))) := rfl
  have Bo : m.bodB 7 li le ls lx = (true && (true && (true && true))) := by
    show ((!inK 7 79 || m.oB) && ((!inK 7 82 || chkX m.rc m.rn li == 0) && ((!inK 7 69 || m.eB le) && (!inH 7 m.h 71 || cgB m.cf m.cb ls lx)))) = _
    rfl
  have V : inK 7 86 = true := rfl
  unfold fldE Ms.tgt Ms.extB
  rw [show fldN.getD 7 [] = [86] from rfl, N, Bo, V]
  generalize (allF.data.toList.all fun r => inH 7 m.h r.toNat || m.nil r.toNat) = x
  simp only [List.find?, a0, b0]
  clear a0 b0 N Bo V
  generalize inR m.v 0 1099511627776 = y0
  cases x <;> cases y0 <;> rfl
set_option maxRecDepth 100000 in
theorem same_k8 (m : Ms) (li : List ByteArray) (le : List Ent) (ls : List Sh) (lx : List Ent) (hk : m.k = 8) : fldE 8 m.h (m.may li le ls lx) m.nil = m.tgt 8 li le ls lx := by
  have a0 : inH 8 m.h (UInt8.toNat 86) = true := rfl
  have b0 : m.may li le ls lx (UInt8.toNat 86) = inR m.v 0 1099511627776 := rfl
  have a1 : inH 8 m.h (UInt8.toNat 67) = true := rfl
  have b1 : m.may li le ls lx (UInt8.toNat 67) = inR m.c 0 1099511627776 := rfl
  have a2 : inH 8 m.h (UInt8.toNat 78) = true := rfl
  have b2 : m.may li le ls lx (UInt8.toNat 78) = inR m.o 0 m.v := rfl
  have a3 : inH 8 m.h (UInt8.toNat 71) = true := rfl
  have b3 : m.may li le ls lx (UInt8.toNat 71) = cgB m.cf m.cb ls lx := rfl
  have N : m.numB 8 = (true && (inR m.c 0 1099511627776 && (inR m.o 0 m.v && (true && true)))) := rfl
  have Bo : m.bodB 8 li le ls lx = (true && (true && (true && cgB m.cf m.cb ls lx))) := by
    show ((!inK 8 79 || m.oB) && ((!inK 8 82 || chkX m.rc m.rn li == 0) && ((!inK 8 69 || m.eB le) && (!inH 8 m.h 71 || cgB m.cf m.cb ls lx)))) = _
    rfl
  have V : inK 8 86 = true := rfl
  unfold fldE Ms.tgt Ms.extB
  rw [show fldN.getD 8 [] = [86, 67, 78, 71] from rfl, N, Bo, V]
  generalize (allF.data.toList.all fun r => inH 8 m.h r.toNat || m.nil r.toNat) = x
  simp only [List.find?, a0, b0, a1, b1, a2, b2, a3, b3]
  clear a0 b0 a1 b1 a2 b2 a3 b3 N Bo V
  generalize inR m.v 0 1099511627776 = y0
  generalize inR m.c 0 1099511627776 = y1
  generalize inR m.o 0 m.v = y2
  generalize cgB m.cf m.cb ls lx = y3
  cases x <;> cases y0 <;> cases y1 <;> cases y2 <;> cases y3 <;> rfl
set_option maxRecDepth 100000 in
theorem same_k9 (m : Ms) (li : List ByteArray) (le : List Ent) (ls : List Sh) (lx : List Ent) (hk : m.k = 9) : fldE 9 m.h (m.may li le ls lx) m.nil = m.tgt 9 li le ls lx := by
  have a0 : inH 9 m.h (UInt8.toNat 86) = true := rfl
  have b0 : m.may li le ls lx (UInt8.toNat 86) = inR m.v 0 1099511627776 := rfl
  have a1 : inH 9 m.h (UInt8.toNat 67) = true := rfl
  have b1 : m.may li le ls lx (UInt8.toNat 67) = inR m.c 0 1099511627776 := rfl
  have a2 : inH 9 m.h (UInt8.toNat 71) = true := rfl
  have b2 : m.may li le ls lx (UInt8.toNat 71) = cgB m.cf m.cb ls lx := rfl
  have N : m.numB 9 = (true && (inR m.c 0 1099511627776 && (true && (true && true)))) := rfl
  have Bo : m.bodB 9 li le ls lx = (true && (true && (true && cgB m.cf m.cb ls lx))) := by
    show ((!inK 9 79 || m.oB) && ((!inK 9 82 || chkX m.rc m.rn li == 0) && ((!inK 9 69 || m.eB le) && (!inH 9 m.h 71 || cgB m.cf m.cb ls lx)))) = _
    rfl
  have V : inK 9 86 = true := rfl
  unfold fldE Ms.tgt Ms.extB
  rw [show fldN.getD 9 [] = [86, 67, 71] from rfl, N, Bo, V]
  generalize (allF.data.toList.all fun r => inH 9 m.h r.toNat || m.nil r.toNat) = x
  simp only [List.find?, a0, b0, a1, b1, a2, b2]
  clear a0 b0 a1 b1 a2 b2 N Bo V
  generalize inR m.v 0 1099511627776 = y0
  generalize inR m.c 0 1099511627776 = y1
  generalize cgB m.cf m.cb ls lx = y2
  cases x <;> cases y0 <;> cases y1 <;> cases y2 <;> rfl
set_option maxRecDepth 100000 in
theorem same_k10 (m : Ms) (li : List ByteArray) (le : List Ent) (ls : List Sh) (lx : List Ent) (hk : m.k = 10) : fldE 10 m.h (m.may li le ls lx) m.nil = m.tgt 10 li le ls lx := by
  have a0 : inH 10 m.h (UInt8.toNat 86) = true := rfl
  have b0 : m.may li le ls lx (UInt8.toNat 86) = inR m.v 0 1099511627776 := rfl
  have a1 : inH 10 m.h (UInt8.toNat 76) = true := rfl
  have b1 : m.may li le ls lx (UInt8.toNat 76) = inR m.l 1 1099511627776 := rfl
  have N : m.numB 10 = (true && (true && (true && (inR m.l 1 1099511627776 && true)))) := rfl
  have Bo : m.bodB 10 li le ls lx = (true && (true && (true && true))) := by
    show ((!inK 10 79 || m.oB) && ((!inK 10 82 || chkX m.rc m.rn li == 0) && ((!inK 10 69 || m.eB le) && (!inH 10 m.h 71 || cgB m.cf m.cb ls lx)))) = _
    rfl
  have V : inK 10 86 = true := rfl
  unfold fldE Ms.tgt Ms.extB
  rw [show fldN.getD 10 [] = [86, 76] from rfl, N, Bo, V]
  generalize (allF.data.toList.all fun r => inH 10 m.h r.toNat || m.nil r.toNat) = x
  simp only [List.find?, a0, b0, a1, b1]
  clear a0 b0 a1 b1 N Bo V
  generalize inR m.v 0 1099511627776 = y0
  generalize inR m.l 1 1099511627776 = y1
  cases x <;> cases y0 <;> cases y1 <;> rfl
set_option maxRecDepth 100000 in
theorem same_k11f (m : Ms) (li : List ByteArray) (le : List Ent) (ls : List Sh) (lx : List Ent) (hk : m.k = 11) (hh : m.h = false) : fldE 11 m.h (m.may li le ls lx) m.nil = m.tgt 11 li le ls lx := by
  have a0 : inH 11 false (UInt8.toNat 86) = true := rfl
  have b0 : m.may li le ls lx (UInt8.toNat 86) = inR m.v 0 1099511627776 := rfl
  have a1 : inH 11 false (UInt8.toNat 67) = true := rfl
  have b1 : m.may li le ls lx (UInt8.toNat 67) = inR m.c 0 1099511627776 := rfl
  have a2 : inH 11 false (UInt8.toNat 76) = true := rfl
  have b2 : m.may li le ls lx (UInt8.toNat 76) = inR m.l 1 1099511627776 := rfl
  have a3 : inH 11 false (UInt8.toNat 72) = true := rfl
  have b3 : m.may li le ls lx (UInt8.toNat 72) = true := rfl
  have a4 : inH 11 false (UInt8.toNat 71) = false := rfl
  have b4 : m.may li le ls lx (UInt8.toNat 71) = cgB m.cf m.cb ls lx := rfl
  have N : m.numB 11 = (true && (inR m.c 0 1099511627776 && (true && (inR m.l 1 1099511627776 && true)))) := rfl
  have Bo : m.bodB 11 li le ls lx = (true && (true && (true && true))) := by
    show ((!inK 11 79 || m.oB) && ((!inK 11 82 || chkX m.rc m.rn li == 0) && ((!inK 11 69 || m.eB le) && (!inH 11 m.h 71 || cgB m.cf m.cb ls lx)))) = _
    rw [hh]
    rfl
  have V : inK 11 86 = true := rfl
  unfold fldE Ms.tgt Ms.extB
  rw [show fldN.getD 11 [] = [86, 67, 76, 72, 71] from rfl, N, Bo, V]
  generalize (allF.data.toList.all fun r => inH 11 m.h r.toNat || m.nil r.toNat) = x
  rw [hh]
  simp only [List.find?, a0, b0, a1, b1, a2, b2, a3, b3, a4, b4]
  clear a0 b0 a1 b1 a2 b2 a3 b3 a4 b4 N Bo V
  generalize inR m.v 0 1099511627776 = y0
  generalize inR m.c 0 1099511627776 = y1
  generalize inR m.l 1 1099511627776 = y2
  cases x <;> cases y0 <;> cases y1 <;> cases y2 <;> rfl
set_option maxRecDepth 100000 in
theorem same_k11t (m : Ms) (li : List ByteArray) (le : List Ent) (ls : List Sh) (lx : List Ent) (hk : m.k = 11) (hh : m.h = true) : fldE 11 m.h (m.may li le ls lx) m.nil = m.tgt 11 li le ls lx := by
  have a0 : inH 11 true (UInt8.toNat 86) = true := rfl
  have b0 : m.may li le ls lx (UInt8.toNat 86) = inR m.v 0 1099511627776 := rfl
  have a1 : inH 11 true (UInt8.toNat 67) = true := rfl
  have b1 : m.may li le ls lx (UInt8.toNat 67) = inR m.c 0 1099511627776 := rfl
  have a2 : inH 11 true (UInt8.toNat 76) = true := rfl
  have b2 : m.may li le ls lx (UInt8.toNat 76) = inR m.l 1 1099511627776 := rfl
  have a3 : inH 11 true (UInt8.toNat 72) = true := rfl
  have b3 : m.may li le ls lx (UInt8.toNat 72) = true := rfl
  have a4 : inH 11 true (UInt8.toNat 71) = true := rfl
  have b4 : m.may li le ls lx (UInt8.toNat 71) = cgB m.cf m.cb ls lx := rfl
  have N : m.numB 11 = (true && (inR m.c 0 1099511627776 && (true && (inR m.l 1 1099511627776 && true)))) := rfl
  have Bo : m.bodB 11 li le ls lx = (true && (true && (true && cgB m.cf m.cb ls lx))) := by
    show ((!inK 11 79 || m.oB) && ((!inK 11 82 || chkX m.rc m.rn li == 0) && ((!inK 11 69 || m.eB le) && (!inH 11 m.h 71 || cgB m.cf m.cb ls lx)))) = _
    rw [hh]
    rfl
  have V : inK 11 86 = true := rfl
  unfold fldE Ms.tgt Ms.extB
  rw [show fldN.getD 11 [] = [86, 67, 76, 72, 71] from rfl, N, Bo, V]
  generalize (allF.data.toList.all fun r => inH 11 m.h r.toNat || m.nil r.toNat) = x
  rw [hh]
  simp only [List.find?, a0, b0, a1, b1, a2, b2, a3, b3, a4, b4]
  clear a0 b0 a1 b1 a2 b2 a3 b3 a4 b4 N Bo V
  generalize inR m.v 0 1099511627776 = y0
  generalize inR m.c 0 1099511627776 = y1
  generalize inR m.l 1 1099511627776 = y2
  generalize cgB m.cf m.cb ls lx = y3
  cases x <;> cases y0 <;> cases y1 <;> cases y2 <;> cases y3 <;> rfl
set_option maxRecDepth 100000 in
theorem same_k12 (m : Ms) (li : List ByteArray) (le : List Ent) (ls : List Sh) (lx : List Ent) (hk : m.k = 12) : fldE 12 m.h (m.may li le ls lx) m.nil = m.tgt 12 li le ls lx := by
  have a0 : inH 12 m.h (UInt8.toNat 86) = true := rfl
  have b0 : m.may li le ls lx (UInt8.toNat 86) = inR m.v 0 1099511627776 := rfl
  have a1 : inH 12 m.h (UInt8.toNat 75) = true := rfl
  have b1 : m.may li le ls lx (UInt8.toNat 75) = inR m.n 0 1099511627776 := by show inR m.n (lstK m.k) 1099511627776 = _; rw [hk]; rfl
  have a2 : inH 12 m.h (UInt8.toNat 67) = true := rfl
  have b2 : m.may li le ls lx (UInt8.toNat 67) = inR m.c 0 1099511627776 := rfl
  have N : m.numB 12 = (inR m.n 0 1099511627776 && (inR m.c 0 1099511627776 && (true && (true && true)))) := rfl
  have Bo : m.bodB 12 li le ls lx = (true && (true && (true && true))) := by
    show ((!inK 12 79 || m.oB) && ((!inK 12 82 || chkX m.rc m.rn li == 0) && ((!inK 12 69 || m.eB le) && (!inH 12 m.h 71 || cgB m.cf m.cb ls lx)))) = _
    rfl
  have V : inK 12 86 = true := rfl
  unfold fldE Ms.tgt Ms.extB
  rw [show fldN.getD 12 [] = [86, 75, 67] from rfl, N, Bo, V]
  generalize (allF.data.toList.all fun r => inH 12 m.h r.toNat || m.nil r.toNat) = x
  simp only [List.find?, a0, b0, a1, b1, a2, b2]
  clear a0 b0 a1 b1 a2 b2 N Bo V
  generalize inR m.v 0 1099511627776 = y0
  generalize inR m.n 0 1099511627776 = y1
  generalize inR m.c 0 1099511627776 = y2
  cases x <;> cases y0 <;> cases y1 <;> cases y2 <;> rfl
set_option maxRecDepth 100000 in
theorem same_k13 (m : Ms) (li : List ByteArray) (le : List Ent) (ls : List Sh) (lx : List Ent) (hk : m.k = 13) : fldE 13 m.h (m.may li le ls lx) m.nil = m.tgt 13 li le ls lx := by
  have a0 : inH 13 m.h (UInt8.toNat 86) = true := rfl
  have b0 : m.may li le ls lx (UInt8.toNat 86) = inR m.v 0 1099511627776 := rfl
  have a1 : inH 13 m.h (UInt8.toNat 67) = true := rfl
  have b1 : m.may li le ls lx (UInt8.toNat 67) = inR m.c 0 1099511627776 := rfl
  have a2 : inH 13 m.h (UInt8.toNat 71) = true := rfl
  have b2 : m.may li le ls lx (UInt8.toNat 71) = cgB m.cf m.cb ls lx := rfl
  have N : m.numB 13 = (true && (inR m.c 0 1099511627776 && (true && (true && true)))) := rfl
  have Bo : m.bodB 13 li le ls lx = (true && (true && (true && cgB m.cf m.cb ls lx))) := by
    show ((!inK 13 79 || m.oB) && ((!inK 13 82 || chkX m.rc m.rn li == 0) && ((!inK 13 69 || m.eB le) && (!inH 13 m.h 71 || cgB m.cf m.cb ls lx)))) = _
    rfl
  have V : inK 13 86 = true := rfl
  unfold fldE Ms.tgt Ms.extB
  rw [show fldN.getD 13 [] = [86, 67, 71] from rfl, N, Bo, V]
  generalize (allF.data.toList.all fun r => inH 13 m.h r.toNat || m.nil r.toNat) = x
  simp only [List.find?, a0, b0, a1, b1, a2, b2]
  clear a0 b0 a1 b1 a2 b2 N Bo V
  generalize inR m.v 0 1099511627776 = y0
  generalize inR m.c 0 1099511627776 = y1
  generalize cgB m.cf m.cb ls lx = y2
  cases x <;> cases y0 <;> cases y1 <;> cases y2 <;> rfl
set_option maxRecDepth 100000 in
theorem same_k14 (m : Ms) (li : List ByteArray) (le : List Ent) (ls : List Sh) (lx : List Ent) (hk : m.k = 14) : fldE 14 m.h (m.may li le ls lx) m.nil = m.tgt 14 li le ls lx := by
  have a0 : inH 14 m.h (UInt8.toNat 75) = true := rfl
  have b0 : m.may li le ls lx (UInt8.toNat 75) = inR m.n 0 1099511627776 := by show inR m.n (lstK m.k) 1099511627776 = _; rw [hk]; rfl
  have a1 : inH 14 m.h (UInt8.toNat 81) = true := rfl
  have b1 : m.may li le ls lx (UInt8.toNat 81) = inR m.q 1 1099511627776 := rfl
  have a2 : inH 14 m.h (UInt8.toNat 79) = true := rfl
  have b2 : m.may li le ls lx (UInt8.toNat 79) = m.oB := rfl
  have N : m.numB 14 = (inR m.n 0 1099511627776 && (true && (true && (true && inR m.q 1 1099511627776)))) := rfl
  have Bo : m.bodB 14 li le ls lx = (m.oB && (true && (true && true))) := by
    show ((!inK 14 79 || m.oB) && ((!inK 14 82 || chkX m.rc m.rn li == 0) && ((!inK 14 69 || m.eB le) && (!inH 14 m.h 71 || cgB m.cf m.cb ls lx)))) = _
    rfl
  have V : inK 14 86 = false := rfl
  unfold fldE Ms.tgt Ms.extB
  rw [show fldN.getD 14 [] = [75, 81, 79] from rfl, N, Bo, V]
  generalize (allF.data.toList.all fun r => inH 14 m.h r.toNat || m.nil r.toNat) = x
  simp only [List.find?, a0, b0, a1, b1, a2, b2]
  clear a0 b0 a1 b1 a2 b2 N Bo V
  generalize inR m.v 0 1099511627776 = y0
  generalize inR m.n 0 1099511627776 = y1
  generalize inR m.q 1 1099511627776 = y2
  generalize m.oB = y3
  cases x <;> cases y0 <;> cases y1 <;> cases y2 <;> cases y3 <;> rfl
set_option maxRecDepth 100000 in
theorem same_k15 (m : Ms) (li : List ByteArray) (le : List Ent) (ls : List Sh) (lx : List Ent) (hk : m.k = 15) : fldE 15 m.h (m.may li le ls lx) m.nil = m.tgt 15 li le ls lx := by
  have a0 : inH 15 m.h (UInt8.toNat 75) = true := rfl
  have b0 : m.may li le ls lx (UInt8.toNat 75) = inR m.n 0 1099511627776 := by show inR m.n (lstK m.k) 1099511627776 = _; rw [hk]; rfl
  have a1 : inH 15 m.h (UInt8.toNat 81) = true := rfl
  have b1 : m.may li le ls lx (UInt8.toNat 81) = inR m.q 1 1099511627776 := rfl
  have a2 : inH 15 m.h (UInt8.toNat 82) = true := rfl
  have b2 : m.may li le ls lx (UInt8.toNat 82) = (chkX m.rc m.rn li == 0) := rfl
  have N : m.numB 15 = (inR m.n 0 1099511627776 && (true && (true && (true && inR m.q 1 1099511627776)))) := rfl
  have Bo : m.bodB 15 li le ls lx = (true && ((chkX m.rc m.rn li == 0) && (true && true))) := by
    show ((!inK 15 79 || m.oB) && ((!inK 15 82 || chkX m.rc m.rn li == 0) && ((!inK 15 69 || m.eB le) && (!inH 15 m.h 71 || cgB m.cf m.cb ls lx)))) = _
    rfl
  have V : inK 15 86 = false := rfl
  unfold fldE Ms.tgt Ms.extB
  rw [show fldN.getD 15 [] = [75, 81, 82] from rfl, N, Bo, V]
  generalize (allF.data.toList.all fun r => inH 15 m.h r.toNat || m.nil r.toNat) = x
  simp only [List.find?, a0, b0, a1, b1, a2, b2]
  clear a0 b0 a1 b1 a2 b2 N Bo V
  generalize inR m.v 0 1099511627776 = y0
  generalize inR m.n 0 1099511627776 = y1
  generalize inR m.q 1 1099511627776 = y2
  generalize (chkX m.rc m.rn li == 0) = y3
  cases x <;> cases y0 <;> cases y1 <;> cases y2 <;> cases y3 <;> rfl
/-- The program's order of fields is the document's order of errors. -/
theorem same_all (m : Ms) (li : List ByteArray) (le : List Ent) (ls : List Sh) (lx : List Ent) {k : Nat} (h : 1 ≤ k ∧ k ≤ 15) (hk : m.k = (k : Int)) : fldE k m.h (m.may li le ls lx) m.nil = m.tgt k li le ls lx := by
  rcases k_cases h with rfl | rfl | rfl | rfl | rfl | rfl | rfl | rfl | rfl | rfl | rfl | rfl | rfl | rfl | rfl
  · exact same_k1 m li le ls lx hk
  · exact same_k2 m li le ls lx hk
  · exact same_k3 m li le ls lx hk
  · exact same_k4 m li le ls lx hk
  · exact same_k5 m li le ls lx hk
  · exact same_k6 m li le ls lx hk
  · exact same_k7 m li le ls lx hk
  · exact same_k8 m li le ls lx hk
  · exact same_k9 m li le ls lx hk
  · exact same_k10 m li le ls lx hk
  · cases hh : m.h with
    | false => rw [← hh]; exact same_k11f m li le ls lx hk hh
    | true => rw [← hh]; exact same_k11t m li le ls lx hk hh
  · exact same_k12 m li le ls lx hk
  · exact same_k13 m li le ls lx hk
  · exact same_k14 m li le ls lx hk
  · exact same_k15 m li le ls lx hk
end Go.Proofs.YthoppemjfdnibaaGreatDoor

namespace Go.Proofs.YthoppemjfdnibaaGreatDoor
open Go.RowKit
set_option linter.unusedVariables false

theorem inH_K {k : Nat} {h : Bool} {r : Nat} (hr : r ≠ 71) : inH k h r = inK k r := by simp [inH, hr]
theorem or11 (cV cK cC cN cL cQ cH cO cR cE cG : Bool) : (!(cV && (cK && (cC && (cN && (cL && (cQ && (cH && (cO && (cR && (cE && (cG && true)))))))))))) = (!(cV && (cK && (cC && cN))) || (!(cL && (cQ && (cH && cE))) || (!cO || (!cR || !cG)))) := by
  cases cV <;> cases cK <;> cases cC <;> cases cN <;> cases cL <;> cases cQ <;> simp <;> cases cH <;> cases cO <;> cases cR <;> simp <;> cases cE <;> cases cG <;> rfl
theorem extB_or (m : Ms) (k : Nat) : m.extB k = (!((inK k 86 || (m.v == 0)) && ((inK k 75 || (m.n == 0)) && ((inK k 67 || (m.c == 0)) && (inK k 78 || (m.o == 0))))) || (!((inK k 76 || (m.l == 0)) && ((inK k 81 || (m.q == 0)) && ((inK k 72 || (!m.h)) && (inK k 69 || ((m.el : Int) == 0))))) || (!(inK k 79 || m.zO) || (!(inK k 82 || m.zR) || !(inH k m.h 71 || m.zG))))) := by
  rw [← or11]
  show (!((inH k m.h 86 || _) && ((inH k m.h 75 || _) && ((inH k m.h 67 || _) && ((inH k m.h 78 || _) && ((inH k m.h 76 || _) && ((inH k m.h 81 || _) && ((inH k m.h 72 || _) && ((inH k m.h 79 || _) && ((inH k m.h 82 || _) && ((inH k m.h 69 || _) && ((inH k m.h 71 || _) && true)))))))))))) = _
  rw [inH_K (r := 86) (by omega), inH_K (r := 75) (by omega), inH_K (r := 67) (by omega), inH_K (r := 78) (by omega), inH_K (r := 76) (by omega), inH_K (r := 81) (by omega), inH_K (r := 72) (by omega), inH_K (r := 79) (by omega), inH_K (r := 82) (by omega), inH_K (r := 69) (by omega)]
  rfl
end Go.Proofs.YthoppemjfdnibaaGreatDoor

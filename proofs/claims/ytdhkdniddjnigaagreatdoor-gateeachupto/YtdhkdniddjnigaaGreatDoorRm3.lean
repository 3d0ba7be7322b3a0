import Derived.Test.YtdhkdniddjnigaaGreatDoorRm2
namespace Go.Proofs.YtdhkdniddjnigaaGreatDoor
open Go.RowKit
set_option linter.unusedVariables false

/-- Is there something that its kind has not? -/
def Ms.extB (m : Ms) (k : Nat) : Bool := !(allF.data.toList.all fun r => inH k m.h r.toNat || m.nil r.toNat)
theorem inH_K {k : Nat} {h : Bool} {r : Nat} (hr : r ≠ 71) : inH k h r = inK k r := by simp [inH, hr]
theorem or11 (cV cK cC cN cL cQ cH cO cR cE cG : Bool) : (!(cV && (cK && (cC && (cN && (cL && (cQ && (cH && (cO && (cR && (cE && (cG && true)))))))))))) = (!(cV && (cK && (cC && cN))) || (!(cL && (cQ && (cH && cE))) || (!cO || (!cR || !cG)))) := by
  cases cV <;> cases cK <;> cases cC <;> cases cN <;> cases cL <;> cases cQ <;> simp <;> cases cH <;> cases cO <;> cases cR <;> simp <;> cases cE <;> cases cG <;> rfl
theorem extB_or (m : Ms) (k : Nat) : m.extB k = (!((inK k 86 || (m.v == 0)) && ((inK k 75 || (m.n == 0)) && ((inK k 67 || (m.c == 0)) && (inK k 78 || (m.o == 0))))) || (!((inK k 76 || (m.l == 0)) && ((inK k 81 || (m.q == 0)) && ((inK k 72 || (!m.h)) && (inK k 69 || ((m.el : Int) == 0))))) || (!(inK k 79 || m.zO) || (!(inK k 82 || m.zR) || !(inH k m.h 71 || m.zG))))) := by
  rw [← or11]
  show (!((inH k m.h 86 || _) && ((inH k m.h 75 || _) && ((inH k m.h 67 || _) && ((inH k m.h 78 || _) && ((inH k m.h 76 || _) && ((inH k m.h 81 || _) && ((inH k m.h 72 || _) && ((inH k m.h 79 || _) && ((inH k m.h 82 || _) && ((inH k m.h 69 || _) && ((inH k m.h 71 || _) && true)))))))))))) = _
  rw [inH_K (r := 86) (by omega), inH_K (r := 75) (by omega), inH_K (r := 67) (by omega), inH_K (r := 78) (by omega), inH_K (r := 76) (by omega), inH_K (r := 81) (by omega), inH_K (r := 72) (by omega), inH_K (r := 79) (by omega), inH_K (r := 82) (by omega), inH_K (r := 69) (by omega)]
  rfl
end Go.Proofs.YtdhkdniddjnigaaGreatDoor

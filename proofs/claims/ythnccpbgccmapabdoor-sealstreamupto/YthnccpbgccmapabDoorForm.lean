import Derived.Test.YthnccpbgccmapabDoorLent
namespace Go.Proofs.YthnccpbgccmapabDoor
set_option linter.unusedVariables false

/-- The mark and the length. -/
def leadP (n : Nat) : List UInt8 := [70, 76, byteN n 0, byteN n 1, byteN n 2]
theorem leadP_length (n : Nat) : (leadP n).length = 5 := rfl

/-- The datagram. -/
def sealP (p : List UInt8) : List UInt8 := leadP p.length ++ (sumB (sumN (leadP p.length)) ++ (p ++ sumB (sumN p)))
theorem sealP_length (p : List UInt8) : (sealP p).length = p.length + 13 := by simp [sealP, leadP_length, sumB_length]; omega

theorem laid_whole (a m b t : List UInt8) (h : t.length = m.length) (p k : Nat) (hp : a.length = p) (hk : t.length = k) : laid (a ++ (m ++ b)) p t k = a ++ (t ++ b) := by
  subst hp hk
  unfold laid
  rw [List.take_length]
  simp [List.drop_append, h]

def zerosP (n : Nat) : List UInt8 := List.replicate n 0
theorem cellsB_zeros (n : Nat) : cellsB (zerosP n) = List.replicate n (Value.int .u8 0) := by simp [cellsB, zerosP]

theorem zeros_split (n : Nat) : zerosP (13 + n) = [] ++ (zerosP 5 ++ (zerosP 4 ++ (zerosP n ++ zerosP 4))) := by
  simp only [zerosP, List.nil_append, List.replicate_append_replicate]
  congr 1
  omega

theorem zerosP_length (n : Nat) : (zerosP n).length = n := by simp [zerosP]

end Go.Proofs.YthnccpbgccmapabDoor

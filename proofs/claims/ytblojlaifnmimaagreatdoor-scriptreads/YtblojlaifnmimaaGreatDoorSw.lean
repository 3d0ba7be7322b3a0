import Derived.Test.YtblojlaifnmimaaGreatDoorPr
namespace Go.Proofs.YtblojlaifnmimaaGreatDoor
open Go.RowKit
set_option linter.unusedVariables false

def first_ : List UInt8 := [102, 108, 101, 101, 116, 32, 51, 32, 49, 32, 50, 32, 51, 32, 56, 32, 54, 52, 32, 52, 32, 52, 32, 56, 32, 50]
def T1 : List UInt8 := [102, 108, 101, 101, 116, 32, 51, 32, 49, 32, 50, 32, 51, 32, 56, 32, 54, 52, 32, 52, 32, 52, 32, 56, 32, 50, 10, 116, 105, 99, 107, 32, 48, 10, 35, 32, 97, 32, 114, 101, 109, 97, 114, 107, 10, 10, 115, 117, 98, 109, 105, 116, 32, 48, 32, 109, 97, 107, 101, 32, 113, 10, 114, 111, 117, 110, 100]
def T2 : List UInt8 := [102, 108, 101, 101, 116, 32, 51, 32, 49, 32, 50, 32, 51, 32, 56, 32, 54, 52, 32, 52, 32, 52, 32, 56, 32, 50, 10, 116, 105, 99, 107, 10, 116, 111, 99, 107, 32, 49]
def T3 : List UInt8 := [102, 108, 101, 101, 116, 32, 51, 32, 49, 32, 50, 32, 51, 32, 56, 32, 54, 52, 32, 52, 32, 52, 32, 56, 32, 50, 10, 97, 115, 107, 32, 48, 32, 50, 32, 114, 101, 97, 100, 32, 113, 32, 51, 32, 50, 10]
def C1 : List Int := [3, 1, 2, 3, 8, 64, 4, 4, 8, 2]
def S1 : List Sp := [⟨1, 0, 0, 0, 0, .zero⟩, ⟨3, 0, 0, 0, 0, ⟨1, [113], [], 0, 0⟩⟩, ⟨12, 0, 0, 0, 0, .zero⟩]
def S3 : Sp := ⟨4, 0, 2, 0, 0, ⟨6, [113], [], 3, 2⟩⟩
set_option maxRecDepth 100000 in
theorem parse1 : parseW T1 = .ok C1 S1 := by kernel_rfl
set_option maxRecDepth 100000 in
theorem parse2 : parseW T2 = .bad 2 171 := by kernel_rfl
theorem dd {n : Nat} (h : n < 10) : Lib.decDigits n = [UInt8.ofNat (48 + n)] := by rw [Lib.decDigits, dif_pos h]
theorem d64 : Lib.decDigits 64 = [54, 52] := by
  rw [Lib.decDigits, dif_neg (by decide), dd (by decide)]
  rfl
theorem hw1 : headWs C1 = [fleetW, [51], [49], [50], [51], [56], [54, 52], [52], [52], [56], [50]] := by
  unfold headWs C1
  simp only [List.map_cons, List.map_nil]
  have e : ∀ k : Nat, ((k : Int)).toNat = k := fun k => Int.toNat_natCast k
  show [fleetW, Lib.decDigits 3, Lib.decDigits 1, Lib.decDigits 2, Lib.decDigits 3, Lib.decDigits 8, Lib.decDigits 64, Lib.decDigits 4, Lib.decDigits 4, Lib.decDigits 8, Lib.decDigits 2] = _
  rw [d64, dd (by decide), dd (by decide), dd (by decide), dd (by decide), dd (by decide)]
  rfl
theorem sw3 : stepWs S3 = [[97, 115, 107], [48], [50], [114, 101, 97, 100], [113], [51], [50]] := by
  have hE : stepE S3 = 0 := by kernel_rfl
  have hop : opWs ⟨6, [113], [], 3, 2⟩ = [[114, 101, 97, 100], [113], Lib.decDigits 3, Lib.decDigits 2] := by
    unfold opWs opA
    rw [if_neg (by decide)]
    rfl
  unfold stepWs
  rw [if_neg (by rw [hE]; decide)]
  show [97, 115, 107] :: ([Lib.decDigits 0] ++ ([Lib.decDigits 2] ++ (opWs ⟨6, [113], [], 3, 2⟩ ++ []))) = _
  rw [hop, dd (by decide), dd (by decide), dd (by decide)]
  rfl
theorem print3 : printE C1 [S3] = 0 ∧ printT C1 [S3] = T3 := by
  have hE : stepE S3 = 0 := by kernel_rfl
  have ht : textP C1 [S3] = T3 := by
    unfold textP
    simp only [List.flatMap_cons, List.flatMap_nil]
    rw [hw1, sw3]
    kernel_rfl
  have hp : printE C1 [S3] = 0 := by
    unfold printE
    have hc : cfgL C1 = 0 := by kernel_rfl
    have hb : badS [S3] = 0 := by unfold badS; rw [hE]; rfl
    rw [hc, hb, ht]
    rfl
  refine ⟨hp, ?_⟩
  unfold printT
  rw [hp, ht]
  rfl
end Go.Proofs.YtblojlaifnmimaaGreatDoor

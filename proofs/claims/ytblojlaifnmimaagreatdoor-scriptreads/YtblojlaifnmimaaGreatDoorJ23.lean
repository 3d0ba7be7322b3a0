import Derived.Test.YtblojlaifnmimaaGreatDoorJ15
import Derived.Test.YtblojlaifnmimaaGreatDoorJ13
namespace Go.Proofs.YtblojlaifnmimaaGreatDoor
open Go.RowKit
set_option linter.unusedVariables false

theorem perm5 {α : Type} (a b c d e : α) (cs : List α) : (a :: b :: c :: d :: e :: cs).Perm (e :: a :: b :: c :: d :: cs) := by
  refine List.Perm.trans ?_ (List.perm_middle (l₁ := [a, b, c, d]) (a := e) (l₂ := cs))
  exact List.Perm.refl _

end Go.Proofs.YtblojlaifnmimaaGreatDoor

namespace Go.Proofs.YtblojlaifnmimaaGreatDoor
open Go.RowKit
set_option linter.unusedVariables false

set_option maxHeartbeats 1600000 in
set_option maxRecDepth 1000000 in
theorem indexT_any {v : Value} {l : Ws} {x : List UInt8} {w : World} {f : Nat} (h : Rt w v l) (hl : l.length ≤ 140737488355328) (hf : f ≤ l.length) :
    Calls Tryz.prog 75 #[v, .int .i64 (f : Int), .string ⟨x.toArray⟩] w fun e w' => e = .returned (.int .i64 (idxI (findW x f (l.drop f)))) ∧ w' = w := by
  obtain ⟨ao, c, rfl⟩ := h.form
  have HS := hid h
  have EQ : Hid (∀ k, ((⟨(l.getD k []).toArray⟩ : ByteArray).toList == (⟨x.toArray⟩ : ByteArray).toList) = decide (l.getD k [] = x)) := hid (fun k => ba_ne)
  have FA : Hid (∀ k, k < l.length → findW x k (l.drop k) = if l.getD k [] = x then some k else findW x (k + 1) (l.drop (k + 1))) := hid (fun k hk => findW_at hk)
  have FE : Hid (findW x l.length (l.drop l.length) = none) := hid (by rw [List.drop_length]; rfl)
  generalize hA : findW x f (l.drop f) = A
  have HA := hid hA
  clear hA h
  generalize hn : l.length = n at *
  have HN := hid hn
  clear hn
  generalize hX : ByteArray.mk x.toArray = X at *
  go_enter Tryz.func75, Tryz.ntmps75
  go_wp2
  go_loopw [7] (fun iv wr => ∃ k : Nat, k ≤ n ∧ iv = .int .i64 (k : Int) ∧ wr = w ∧ Hid (findW x k (l.drop k) = A)) (fun iv _ => n - (intOf iv).toNat)
  case atStart => exact ⟨f, hf, rfl, rfl, HA⟩
  case round =>
    obtain ⟨k, hk, rfl, rfl, hR⟩ := hrel
    clear HA
    by_cases hlt : k < n
    · have hlt' : (k : Int) < (n : Int) := by omega
      obtain ⟨g, o, rfl, _, h1⟩ := HS.out.at (j := k) (by rw [HN.out]; exact hlt)
      have eq := EQ.out k
      by_cases hx : l.getD k [] = x
      · rw [decide_eq_true hx] at eq
        have fin : Hid (A = some k) := hid (by rw [← hR.out, FA.out k hlt, if_pos hx])
        generalize ByteArray.mk (l.getD k []).toArray = Y at *
        clear hx
        go_wp2
        go_ret
        exact ⟨by rw [fin.out]; rfl, rfl⟩
      · rw [decide_eq_false hx] at eq
        have nx : Hid (findW x (k + 1) (l.drop (k + 1)) = A) := hid (by rw [← hR.out, FA.out k hlt, if_neg hx])
        generalize ByteArray.mk (l.getD k []).toArray = Y at *
        clear hx
        go_wp2
        go_roundw
        case rel => exact ⟨k + 1, by omega, by go_num, trivial, nx⟩
        case measure => simp [intOf]; omega
    · have hlt' : ¬ (k : Int) < (n : Int) := by omega
      have ek : k = n := by omega
      have fin : Hid (A = none) := hid (by rw [← hR.out, ek]; exact FE.out)
      clear ek
      go_wp2
      go_ret
      exact ⟨by rw [fin.out]; rfl, rfl⟩

end Go.Proofs.YtblojlaifnmimaaGreatDoor

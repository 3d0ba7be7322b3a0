import Derived.Test.YtdhkdniddjnigaaGreatDoorWrt
namespace Go.Proofs.YtdhkdniddjnigaaGreatDoor
open Go.RowKit
set_option linter.unusedVariables false

theorem ba_app (a b : List UInt8) : (⟨a.toArray⟩ : ByteArray) ++ ⟨b.toArray⟩ = ⟨(a ++ b).toArray⟩ := by
  apply ByteArray.ext
  simp
theorem ba_size (a : List UInt8) : (⟨a.toArray⟩ : ByteArray).size = a.length := by simp [ByteArray.size]

set_option maxHeartbeats 1600000 in
set_option maxRecDepth 1000000 in
theorem rJoin_any {s : Value} {ws : Ws} {w : World} (hs : Rt w s ws) (hn : ws.length ≤ 140737488355328) (hl : lenJ ws ≤ 10000000000000) :
    Calls Tryz.prog 73 #[s] w fun e w' => e = .returned (.string ⟨(joinW ws).toArray⟩) ∧ Below w.heap.size w w' := by
  obtain ⟨ao, c, rfl⟩ := hs.form
  have HS := hid hs
  have WR : Hid (∀ k W, k < ws.length → Calls Tryz.prog 113 #[.string ⟨(ws.getD k []).toArray⟩] W fun e w' => e = .returned (.string ⟨(wrtW (ws.getD k [])).toArray⟩) ∧ Below W.heap.size W w') := hid (fun k W hk => written_any (by
    have h2 := lenJ_le ws (k + 1)
    rw [lenJ_take hk] at h2
    omega))
  have FK : Hid (∀ k, k < ws.length → (⟨(preW (ws.take k)).toArray⟩ : ByteArray) ++ ⟨(wrtW (ws.getD k [])).toArray⟩ = ⟨(joinW (ws.take (k + 1))).toArray⟩ ∧ ¬ 9223372036854775807 < (⟨(preW (ws.take k)).toArray⟩ : ByteArray).size + (⟨(wrtW (ws.getD k [])).toArray⟩ : ByteArray).size) := hid (fun k hk => by
    refine ⟨by rw [ba_app, take_snoc hk, joinW_snoc], ?_⟩
    rw [ba_size, ba_size]
    have h1 := joinW_len ws k (by omega)
    have h2 := lenJ_le ws (k + 1)
    rw [lenJ_take hk] at h2
    have h3 := preW_len (ws.take k)
    have h4 := wrtW_len (ws.getD k [])
    omega)
  have FS : Hid (∀ k, 0 < k → k < ws.length → (⟨(joinW (ws.take k)).toArray⟩ : ByteArray) ++ ⟨#[32]⟩ = ⟨(preW (ws.take k)).toArray⟩ ∧ ¬ 9223372036854775807 < (⟨(joinW (ws.take k)).toArray⟩ : ByteArray).size + (⟨#[32]⟩ : ByteArray).size) := hid (fun k h0 hk => by
    have e2 : preW (ws.take k) = joinW (ws.take k) ++ [32] := by
      unfold preW
      rw [if_neg (fun e => by have := congrArg List.length e; rw [List.length_take, List.length_nil] at this; omega)]
    refine ⟨by rw [e2, ← ba_app], ?_⟩
    rw [ba_size]
    have h1 := joinW_len ws k (by omega)
    have h2 := lenJ_le ws k
    have h3 : (⟨#[32]⟩ : ByteArray).size = 1 := rfl
    omega)
  have P0 : Hid (preW (ws.take 0) = joinW (ws.take 0)) := hid (by simp [preW, joinW])
  have J0 : Hid ((⟨(joinW (ws.take 0)).toArray⟩ : ByteArray) = ⟨#[]⟩) := hid (by simp [joinW])
  have FN : Hid ((⟨(joinW (ws.take ws.length)).toArray⟩ : ByteArray) = ⟨(joinW ws).toArray⟩) := hid (by rw [List.take_length])
  clear hs hl
  generalize hJ : ByteArray.mk (joinW ws).toArray = J at *
  clear hJ
  generalize hnw : ws.length = n at *
  have HN := hid hnw
  clear hnw
  go_enter Tryz.func73, Tryz.ntmps73
  go_wp2
  go_loopw [3, 8] (fun sv iv wr => ∃ (k : Nat) (S : ByteArray), k ≤ n ∧ iv = .int .i64 (k : Int) ∧ sv = .string S ∧ Hid (S = ⟨(joinW (ws.take k)).toArray⟩) ∧ Hid (Below w.heap.size w wr)) (fun _ iv _ => n - (intOf iv).toNat)
  case atStart => exact ⟨0, ⟨#[]⟩, by omega, rfl, rfl, hid J0.out.symm, hid (Below.refl _ _)⟩
  case round =>
    obtain ⟨k, S, hk, rfl, rfl, hS, hB⟩ := hrel
    by_cases hlt : k < n
    · obtain ⟨g, o, rfl, _, h1⟩ := (HS.out.later hB.out).at (j := k) (by rw [HN.out]; exact hlt)
      have hlt' : (k : Int) < (n : Int) := by omega
      have Q := hid (WR.out k wr hlt)
      obtain ⟨f1, f2⟩ := FK.out k hlt
      by_cases h0 : k = 0
      · have eS : Hid ((⟨(preW (ws.take k)).toArray⟩ : ByteArray) = S) := hid (by rw [hS.out, h0, P0.out])
        rw [eS.out] at f1 f2
        have hz : ¬ (0 : Int) < (k : Int) := by omega
        generalize ByteArray.mk (ws.getD k []).toArray = X at *
        generalize ByteArray.mk (wrtW (ws.getD k [])).toArray = Y at *
        generalize hN : ByteArray.mk (joinW (ws.take (k + 1))).toArray = N at *
        have HNN := hid hN
        clear h0 hN
        go_wp2_with (go_at_call 113; refine Q.out.mono ?_; rintro e w2 ⟨rfl, B2⟩; have BB2 := hid (hB.out.trans (B2.mono hB.out.size)); clear B2)
        go_roundw
        case rel => exact ⟨k + 1, N, by omega, by go_num, rfl, hid HNN.out.symm, BB2⟩
        case measure => simp [intOf]; omega
      · obtain ⟨g1, g2⟩ := FS.out k (by omega) hlt
        rw [← hS.out] at g1 g2
        have hz : (0 : Int) < (k : Int) := by omega
        generalize ByteArray.mk (ws.getD k []).toArray = X at *
        generalize ByteArray.mk (wrtW (ws.getD k [])).toArray = Y at *
        generalize ByteArray.mk (preW (ws.take k)).toArray = Z at *
        generalize hN : ByteArray.mk (joinW (ws.take (k + 1))).toArray = N at *
        have HNN := hid hN
        clear h0 hN
        go_wp2_with (go_at_call 113; refine Q.out.mono ?_; rintro e w2 ⟨rfl, B2⟩; have BB2 := hid (hB.out.trans (B2.mono hB.out.size)); clear B2)
        go_roundw
        case rel => exact ⟨k + 1, N, by omega, by go_num, rfl, hid HNN.out.symm, BB2⟩
        case measure => simp [intOf]; omega
    · have hlt' : ¬ (k : Int) < (n : Int) := by omega
      have ek : k = n := by omega
      have fin : Hid (S = J) := hid (by rw [hS.out, ek, FN.out])
      clear ek
      go_wp2
      go_ret
      exact ⟨by rw [← fin.out]; rfl, hB.out⟩
end Go.Proofs.YtdhkdniddjnigaaGreatDoor

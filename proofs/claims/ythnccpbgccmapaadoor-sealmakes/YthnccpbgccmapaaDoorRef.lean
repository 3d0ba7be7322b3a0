import Derived.Test.YthnccpbgccmapaaDoorShown
namespace Go.Proofs.YthnccpbgccmapaaDoor
open Go.RowKit
set_option linter.unusedVariables false

theorem sumByte_q (s i : Nat) (hs : s < 4294967296) (hi : i < 4) (w : World) :
    Calls Tryd.prog 39 #[.int .u32 (s : Int), .int .i64 (i : Int)] w fun e w' => e = .returned (.int .u8 ((byteN s i).toNat : Int)) ∧ ∃ n, w' = w.drewN n :=
  (sumByte_any s i hs hi).mono fun e w' ⟨h1, h2⟩ => ⟨h1, 0, h2⟩

set_option maxHeartbeats 1600000 in
set_option maxRecDepth 1000000 in
theorem summed_any {w : World} {v : Value} {l : List UInt8} (h : Reads w v l) (p s : Nat) (hs : s < 4294967296) (hp : p + 4 ≤ l.length) (hlen : l.length ≤ 140737488351232) :
    Calls Tryd.prog 37 #[v, .int .i64 (p : Int), .int .u32 (s : Int)] w fun e w' => e = .returned (.bool (isSum ((l.drop p).take 4) s)) ∧ ∃ q, w' = w.drewN q := by
  obtain ⟨ao, c, hf⟩ := h.form
  subst hf
  have HH := hid h
  clear h
  have ht : Hid (((l.drop p).take 4).length = 4) := by show _ = _; simp; omega
  have hg : Hid (∀ k, k < 4 → ((l.drop p).take 4).getD k 0 = l.getD (p + k) 0) := fun k hk => by
    rw [List.getD_eq_getElem?_getD, List.getElem?_take, if_pos hk, List.getElem?_drop, ← List.getD_eq_getElem?_getD]
  go_enter Tryd.func37, Tryd.ntmps37
  go_wp2
  go_loopw [7] (fun iv wr => ∃ (k q : Nat), k ≤ 4 ∧ iv = .int .i64 (k : Int) ∧ Hid (∀ j, j < k → l.getD (p + j) 0 = byteN s j) ∧ w.drewN q = wr) (fun iv _ => 4 - (intOf iv).toNat)
  case atStart => exact ⟨0, 0, by omega, rfl, fun j hj => by omega, rfl⟩
  case round =>
    obtain ⟨k, q, hk, rfl, hall, hwr⟩ := hrel
    have HWR := hid hwr
    by_cases hlt : k < 4
    · obtain ⟨g, o, rfl, h1⟩ := ((HH.out.drewN q)).at_u8 (p + k) (by omega)
      rw [hwr] at h1
      clear hwr
      obtain ⟨x, hxx⟩ : ∃ x, x = (l.getD (p + k) 0).toNat := ⟨_, rfl⟩
      rw [← hxx] at h1
      have HX := hid hxx
      clear hxx
      obtain ⟨pk, hpk⟩ : ∃ pk, pk = p + k := ⟨_, rfl⟩
      have hw : IntKind.i64.wrap ((p : Int) + (k : Int)) = (pk : Int) := by simp [IntKind.wrap, IntKind.bits, IntKind.signed]; omega
      have hbd : pk < l.length := by omega
      rw [← hpk] at h1
      have HPK := hid hpk
      clear hpk
      by_cases hxy : x = (byteN s k).toNat
      · have hb : ((x : Int) != ((byteN s k).toNat : Int)) = false := by simp [hxy]
        have hxy' := hid hxy
        clear hxy
        go_wp2_with fail
        go_quiet (first | (go_at_call 39; refine Calls.quiet_of (sumByte_q s k hs hlt _)))
        go_wp2
        go_roundw
        case rel => exact ⟨k + 1, q + nq, by omega, by go_num, fun j hj => by
          by_cases hjk : j < k
          · exact hall.out j hjk
          · have : j = k := by omega
            subst this
            exact u8_eq (by rw [← HX.out]; exact hxy'.out), by rw [← HWR.out]; simp [World.drewN, Nat.add_assoc]⟩
        case measure => simp [intOf]; omega
      · have hb : ((x : Int) != ((byteN s k).toNat : Int)) = true := by simp; omega
        have hxy' := hid hxy
        clear hxy
        go_wp2_with fail
        go_quiet (first | (go_at_call 39; refine Calls.quiet_of (sumByte_q s k hs hlt _)))
        go_wp2
        go_ret
        refine ⟨?_, q + nq, by rw [← HWR.out]; simp [World.drewN, Nat.add_assoc]⟩
        have : isSum ((l.drop p).take 4) s = false := isSum_false hlt (u8_ne (by rw [hg.out k hlt, ← HX.out]; exact hxy'.out))
        rw [this]; rfl
    · have hfin := hid (isSum_true (s := s) ht.out (fun k hk => by rw [hg.out k hk]; exact hall.out k (by omega)))
      clear hwr
      go_wp2
      go_ret
      exact ⟨by rw [hfin.out]; rfl, q, HWR.out.symm⟩
end Go.Proofs.YthnccpbgccmapaaDoor

import Derived.Test.YtkaigmoeagjjgaaWt1
namespace Go.Proofs.Ytkaigmoeagjjgaa
open Go.RowKit
set_option linter.unusedVariables false

set_option maxHeartbeats 2000000 in
theorem open_any {w : World} {oo : Option Addr} {oc : Nat} {l : List Sp} {a n : Int} (h : w.ownsRow 0 84 5 (.slice oo l.length oc) l.length (flatP l)) (hn : l.length ≤ 1048577) : Calls Try.prog 43 #[.slice oo l.length oc, .int .i64 a, .int .i64 n] w fun e w' => e = .returned (.int .i64 (opI l a n)) ∧ w' = w := by
  have HR := hid h
  obtain ⟨N, hN⟩ : ∃ N, Hid (N = opI l a n) := ⟨_, rfl⟩
  rw [← hN.out]
  clear h
  go_enter Try.func43, Try.ntmps43
  go_wp2
  go_loopw [7] (fun i wr => ∃ k : Nat, k ≤ l.length ∧ (∀ j x, j < k → l[j]? = some x → isOp a n x = false) ∧ i = .int .i64 k ∧ wr = w) (fun i _ => l.length - (intOf i).toNat)
  case atStart => exact ⟨0, Nat.zero_le _, fun j x h => by omega, rfl, rfl⟩
  case round =>
    obtain ⟨k, hk, hall, rfl, rfl⟩ := hrel
    have HALL := hid hall
    clear hall
    by_cases hlt : k < l.length
    · obtain ⟨x, hx⟩ : ∃ x, l[k]? = some x := ⟨_, List.getElem?_eq_getElem hlt⟩
      obtain ⟨g, rfl, hg, c0, c1, c2, c3, c4, cf⟩ := sp_at HR.out hx
      have HX := hid hx
      have stop : isOp a n x = true → N = (k : Int) := fun e => by
        rw [hN.out]
        have : opn l a n = some k := by
          unfold opn
          rw [List.findIdx?_eq_some_iff_getElem]
          refine ⟨hlt, ?_, fun j hj => ?_⟩
          · rw [(List.getElem?_eq_some_iff.1 HX.out).2]; exact e
          · simp [HALL.out j _ hj (List.getElem?_eq_getElem (by omega))]
        unfold opI; rw [this]
      have on : isOp a n x = false → ∀ j y, j < k + 1 → l[j]? = some y → isOp a n y = false := fun e j y hj hy => by
        by_cases c : j < k
        · exact HALL.out j y c hy
        · obtain rfl : j = k := by omega
          rw [HX.out] at hy
          cases hy
          exact e
      clear c2 c3 cf
      have STOP := hid stop
      have ON := hid on
      clear stop on hx
      cases hd : x.d with
      | true =>
        rw [hd] at c4
        have hop : isOp a n x = false := by unfold isOp; rw [hd]; rfl
        have HO := hid (ON.out hop)
        clear hd hop c0 c1
        go_wp2
        exact ⟨⟨k + 1, by omega, HO.out, rfl, trivial⟩, by simp [intOf]; omega⟩
      | false =>
        rw [hd] at c4
        by_cases ea : x.a = a
        · by_cases en : x.n = n
          · have hop : isOp a n x = true := by unfold isOp; rw [hd, decide_eq_true ea, decide_eq_true en]; rfl
            have HO := hid (STOP.out hop)
            rw [ea] at c0
            rw [en] at c1
            clear hd hop ea en
            go_wp2
            go_ret
            exact ⟨by rw [HO.out]; rfl, rfl⟩
          · have hop : isOp a n x = false := by unfold isOp; rw [hd, decide_eq_true ea, decide_eq_false en]; rfl
            have HO := hid (ON.out hop)
            have e2 : (x.n == n) = false := by simpa using en
            rw [ea] at c0
            clear hd hop ea en
            go_wp2
            exact ⟨⟨k + 1, by omega, HO.out, rfl, trivial⟩, by simp [intOf]; omega⟩
        · have hop : isOp a n x = false := by unfold isOp; rw [hd, decide_eq_false ea]; rfl
          have HO := hid (ON.out hop)
          have e2 : (x.a == a) = false := by simpa using ea
          clear hd hop ea c1
          go_wp2
          exact ⟨⟨k + 1, by omega, HO.out, rfl, trivial⟩, by simp [intOf]; omega⟩
    · have hkl : k = l.length := by omega
      have hE : N = -1 := by
        rw [hN.out]
        have : opn l a n = none := by
          unfold opn
          rw [List.findIdx?_eq_none_iff]
          intro x hx
          obtain ⟨j, hj⟩ := List.mem_iff_getElem?.1 hx
          exact HALL.out j x (by have := (List.getElem?_eq_some_iff.1 hj).1; omega) hj
        unfold opI; rw [this]
      have HE := hid hE
      clear hE hkl
      go_wp2
      go_ret
      exact ⟨by rw [HE.out]; rfl, rfl⟩
end Go.Proofs.Ytkaigmoeagjjgaa

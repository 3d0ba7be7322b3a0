import Derived.Test.YthjoppgomopkfaaLog2
namespace Go.Proofs.Ythjoppgomopkfaa
open Go.RowKit
set_option linter.unusedVariables false

theorem Cut_no {w : World} {g b o h n : Nat} (hd : HeadAt w g b o h n) (k : Int) (hk : ¬ ((b : Int) ≤ k ∧ k ≤ (o : Int))) : Calls Try.prog 21 #[.pointer (some ⟨g, 0, none⟩), .int .i64 k] w fun e w' => e = .returned (.int .i64 92) ∧ w' = w := by
  have c0 := hd.c0
  have c1 := hd.c1
  clear hd
  by_cases h1 : k < (b : Int)
  · have e1 : decide (k < (b : Int)) = true := decide_eq_true h1
    go_enter Try.func21, Try.ntmps21
    go_wp2
    go_ret
    exact ⟨rfl, rfl⟩
  · have e1 : decide (k < (b : Int)) = false := decide_eq_false h1
    have h2 : (o : Int) < k := by omega
    have e2 : decide ((o : Int) < k) = true := decide_eq_true h2
    go_enter Try.func21, Try.ntmps21
    go_wp2
    go_ret
    exact ⟨rfl, rfl⟩

set_option maxHeartbeats 800000 in
set_option maxRecDepth 1000000 in
theorem Cut_ok {g h b n : Nat} {l ps : List Ent} {cs : List Comp} {w : World} (hA : All (logP g h b (b + l.length) n ps ++ cs) w) (k : LogOk b n l ps) (o : Nat) (h1 : b ≤ o) (h2 : o ≤ b + l.length) : Calls Try.prog 21 #[.pointer (some ⟨g, 0, none⟩), .int .i64 (o : Int)] w fun e w' => e = .returned (.int .i64 0) ∧ ∃ ps', LogOk o n (l.drop (o - b)) ps' ∧ All (logP g h o (b + l.length) n ps' ++ cs) w' := by
  have c0 := hA.head.c0
  have c1 := hA.head.c1
  have e1 : decide ((o : Int) < (b : Int)) = false := decide_eq_false (by omega)
  have i1 : ¬ ((o : Int) < (b : Int)) := by omega
  obtain ⟨q, hq⟩ : ∃ q, q = b + l.length := ⟨_, rfl⟩
  have e2 : decide ((q : Int) < (o : Int)) = false := decide_eq_false (by omega)
  have i2 : ¬ ((q : Int) < (o : Int)) := by omega
  have ht := k.top
  rw [← hq] at hA c1 h2 ht ⊢
  have HA := hid hA
  have HK := hid k
  have HQ := hid hq
  clear hA k hq
  go_enter Try.func21, Try.ntmps21
  go_wp2_with fail
  clear c0 c1
  go_loopw [] (fun wr => ∃ (i : Nat) (ps' : List Ent), b + i ≤ o ∧ Hid (LogOk (b + i) n (l.drop i) ps') ∧ Hid (All (logP g h (b + i) q n ps' ++ cs) wr)) (fun wr => match wr.cell? ⟨g, 0, none⟩ with | some v => o - (intOf v).toNat | none => 0)
  case atStart => exact ⟨0, ps, by omega, HK, HA⟩
  case round =>
    obtain ⟨i, ps', hi, K1, A1⟩ := hrel
    clear HA HK
    by_cases hlt : b + i < o
    · have hil : i < l.length := by have := HQ.out; omega
      have K2 : Hid (LogOk (b + (i + 1)) n (l.drop (i + 1)) (ps'.set ((b + i + 1) % n) Ent.zero)) := hid (by
        have h := K1.out
        rw [List.drop_eq_getElem_cons hil] at h
        exact h.cut1 Ent.zero)
      have d0 := A1.out.head.c0
      have D0 := hid A1.out.head.c0
      have d2 := A1.out.head.c2
      have f0 := free_at A1.out.head 0
      have HS : Hid (All (logP g h (b + (i + 1)) q n ps' ++ cs) (wr.setCell ⟨g, 0, none⟩ (.int .i64 ((b + (i + 1) : Nat) : Int)))) := hid (A1.out.setBlk 0 _)
      have HF : Hid (∀ W, All (logP g h (b + (i + 1)) q n ps' ++ cs) W → Calls Try.prog 41 #[.agg #[.slice (some ⟨h, 0, none⟩) n n], .int .i64 ((b + (i + 1) : Nat) : Int)] W fun e w' => e = .returned (.tuple #[]) ∧ All (logP g h (b + (i + 1)) q n (ps'.set ((b + i + 1) % n) Ent.zero) ++ cs) w') := hid (fun W A => (free_any A.swap K1.out.len K1.out.pos K1.out.le (by omega)).mono (fun e w' ⟨e1, A'⟩ => ⟨e1, A'.swap⟩))
      have hi2 : b + (i + 1) ≤ o := by omega
      clear A1 K1
      generalize hj2 : b + (i + 1) = j2 at *
      generalize hj : b + i = j at *
      have EJ : Hid ((j2 : Int) = (j : Int) + 1) := hid (by omega)
      have l1 : decide ((j : Int) < (o : Int)) = true := decide_eq_true (by omega)
      have l2 : (j : Int) < (o : Int) := by omega
      go_upto_region 5 with fail
      rw [← EJ.out]
      generalize (wr.setCell ⟨g, 0, none⟩ (.int .i64 (j2 : Int))) = w1 at *
      have d0 := HS.out.head.c0
      have d2 := HS.out.head.c2
      go_region_held3 (fun W => W.cell? ⟨g, 2, none⟩ = some (.slice (some ⟨h, 0, none⟩) n n) ∧ W.cell? ⟨g, 0, none⟩ = some (.int .i64 (j2 : Int))) (go_keep) (first | (go_at_call 41; refine (HF.out _ HS.out.drew).mono ?_; rintro e w2 ⟨rfl, A2⟩; have A2 := hid A2; have d0 := A2.out.head.c0; have d2 := A2.out.head.c2))
      go_wp2
      go_roundw
      case rel => exact ⟨i + 1, _, by omega, by rw [hj2]; exact K2, by rw [hj2]; exact A2⟩
      case measure =>
        have E0 := A2.out.head.c0
        have E1 := D0.out
        simp only [E0, E1, intOf]
        omega
    · have hj : b + i = o := by omega
      have K2 := hid K1.out
      have A2 := hid A1.out
      rw [hj] at K2 A2
      have hio : i = o - b := by omega
      rw [hio] at K2
      have d0 := A2.out.head.c0
      clear K1 A1 hlt hi
      go_wp2
      go_ret
      exact ⟨rfl, _, K2.out, A2.out⟩
end Go.Proofs.Ythjoppgomopkfaa

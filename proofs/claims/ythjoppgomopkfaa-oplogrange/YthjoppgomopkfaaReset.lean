import Derived.Test.YthjoppgomopkfaaRefA
import Derived.Test.YthjoppgomopkfaaAppE
namespace Go.Proofs.Ythjoppgomopkfaa
open Go.RowKit
set_option linter.unusedVariables false

/-- What Reset answers. -/
def resetE (n : Nat) (base : Int) (m : Nat) : Int := if base < 0 ∨ 1099511627776 < base ∨ 1099511627776 < base + m then 92 else if n < m then 90 else 0

set_option maxHeartbeats 800000 in
set_option maxRecDepth 1000000 in
theorem Reset_no {g h b n : Nat} {l ps : List Ent} {cs : List Comp} {w : World} (hA : All (logP g h b (b + l.length) n ps ++ cs) w) (k : LogOk b n l ps) (base : Int) (hi : i64In base) {ao : Option Addr} {m c : Nat} (hm : m ≤ 1099511627776 * 4) (hno : resetE n base m ≠ 0) : Calls Try.prog 23 #[.pointer (some ⟨g, 0, none⟩), .int .i64 base, .slice ao m c] w fun e w' => e = .returned (.int .i64 (resetE n base m)) ∧ All (logP g h b (b + l.length) n ps ++ cs) w' := by
  have c2 := hA.head.c2
  have H := hid (room_any (w := w) (some ⟨h, 0, none⟩) n n)
  have HA := hid hA
  have hn := k.le
  clear hA k
  by_cases h1 : base < 0
  · have e9 : resetE n base m = 92 := by simp [resetE, h1]
    rw [e9]
    have q1 : decide (base < 0) = true := decide_eq_true h1
    clear hno hi e9
    go_enter Try.func23, Try.ntmps23
    go_wp2_with fail
    refine H.out.mono ?_
    rintro e w1 ⟨rfl, hb⟩
    have A1 := hid (HA.out.later hb)
    go_wp2
    go_ret
    exact ⟨rfl, A1.out⟩
  have q1 : decide (base < 0) = false := decide_eq_false h1
  by_cases h2 : 1099511627776 < base
  · have e9 : resetE n base m = 92 := by simp [resetE, h2]
    rw [e9]
    have q2 : decide (1099511627776 < base) = true := decide_eq_true h2
    clear hno hi e9
    go_enter Try.func23, Try.ntmps23
    go_wp2_with fail
    refine H.out.mono ?_
    rintro e w1 ⟨rfl, hb⟩
    have A1 := hid (HA.out.later hb)
    go_wp2
    go_ret
    exact ⟨rfl, A1.out⟩
  have q2 : decide (1099511627776 < base) = false := decide_eq_false h2
  by_cases h3 : 1099511627776 < base + m
  · have e9 : resetE n base m = 92 := by simp [resetE, h3]
    rw [e9]
    have q3 : decide (1099511627776 - base < (m : Int)) = true := decide_eq_true (by omega)
    have h3' : 1099511627776 - base < (m : Int) := by omega
    clear hno hi e9
    go_enter Try.func23, Try.ntmps23
    go_wp2_with fail
    refine H.out.mono ?_
    rintro e w1 ⟨rfl, hb⟩
    have A1 := hid (HA.out.later hb)
    go_wp2
    go_ret
    exact ⟨rfl, A1.out⟩
  have q3 : decide (1099511627776 - base < (m : Int)) = false := decide_eq_false (by omega)
  have h3' : ¬ 1099511627776 - base < (m : Int) := by omega
  have h4 : n < m := by
    unfold resetE at hno
    rw [if_neg (by omega)] at hno
    by_cases h : n < m
    · exact h
    · rw [if_neg h] at hno; exact absurd rfl hno
  have e9 : resetE n base m = 90 := by unfold resetE; rw [if_neg (by omega), if_pos h4]
  rw [e9]
  have q4 : decide ((n : Int) < (m : Int)) = true := decide_eq_true (by omega)
  have h4' : (n : Int) < (m : Int) := by omega
  clear hno hi e9
  go_enter Try.func23, Try.ntmps23
  go_wp2_with fail
  refine H.out.mono ?_
  rintro e w1 ⟨rfl, hb⟩
  have A1 := hid (HA.out.later hb)
  go_wp2
  go_ret
  exact ⟨rfl, A1.out⟩

set_option maxHeartbeats 1600000 in
set_option maxRecDepth 1000000 in
theorem Reset_ok {g h b n : Nat} {l ps : List Ent} {cs : List Comp} {w : World} (hA : All (logP g h b (b + l.length) n ps ++ cs) w) (k : LogOk b n l ps) (base : Nat) {s : Value} {L : List Ent} (hS : ∀ W, All cs W → EntsW W s L) (h1 : base + L.length ≤ 1099511627776) (h2 : L.length ≤ n) : Calls Try.prog 23 #[.pointer (some ⟨g, 0, none⟩), .int .i64 (base : Int), s] w fun e w' => e = .returned (.int .i64 0) ∧ ∃ h' ps', LogOk base n L ps' ∧ All (logP g h' base (base + L.length) n ps' ++ cs) w' := by
  obtain ⟨ao, c, rfl, hc, _⟩ := hS w hA.tail.tail
  have c2 := hA.head.c2
  have H := hid (room_any (w := w) (some ⟨h, 0, none⟩) n n)
  have HA := hid hA
  have hn := k.le
  have hn0 := k.pos
  have HS := hid hS
  have H2 := hid (fun W (A : All (logP g h b (b + l.length) n ps ++ cs) W) => newRing_any A n hn)
  have q1 : decide ((base : Int) < 0) = false := decide_eq_false (by omega)
  have p1 : ¬ ((base : Int) < 0) := by omega
  have q2 : decide ((1099511627776 : Int) < (base : Int)) = false := decide_eq_false (by omega)
  have p2 : ¬ ((1099511627776 : Int) < (base : Int)) := by omega
  have q3 : decide ((1099511627776 : Int) - (base : Int) < (L.length : Int)) = false := decide_eq_false (by omega)
  have p3 : ¬ ((1099511627776 : Int) - (base : Int) < (L.length : Int)) := by omega
  have q4 : decide ((n : Int) < (L.length : Int)) = false := decide_eq_false (by omega)
  have p4 : ¬ ((n : Int) < (L.length : Int)) := by omega
  clear hA k hS
  go_enter Try.func23, Try.ntmps23
  go_wp2_with fail
  refine H.out.mono ?_
  rintro e w1 ⟨rfl, hb⟩
  have A1 := hid (HA.out.later hb)
  clear H HA hb c2
  go_wp2_with fail
  refine (H2.out _ A1.out).mono ?_
  rintro e w2 ⟨h', rfl, A2⟩
  have A2 := hid A2
  clear H2 A1
  have d0 := A2.out.tail.head.c0
  have d1 := A2.out.tail.head.c1
  have d2 := A2.out.tail.head.c2
  have f0 := free_at A2.out.tail.head 0
  have f1 := free_at A2.out.tail.head 1
  have f2 := free_at A2.out.tail.head 2
  have A3 : Hid (All (logP g h' base (base + 0) n (List.replicate n Ent.zero) ++ cs) (((w2.setCell ⟨g, 0, none⟩ (.int .i64 (base : Int))).setCell ⟨g, 1, none⟩ (.int .i64 (base : Int))).setCell ⟨g, 2, none⟩ (.slice (some ⟨h', 0, none⟩) n n))) := hid (by
    have B := (((A2.out.swap).setBlk 0 (.int .i64 (base : Int))).setBlk 1 (.int .i64 (base : Int))).setBlk 2 (.slice (some ⟨h', 0, none⟩) n n)
    exact B.cab.tail)
  have K0 := hid (LogOk.new hn0 hn base (by omega))
  clear A2
  go_wp2_with fail
  go_loopw [43] (fun iv wr => ∃ (i : Nat) (ps' : List Ent), i ≤ L.length ∧ iv = .int .i64 (i : Int) ∧ Hid (LogOk base n (L.take i) ps') ∧ Hid (All (logP g h' base (base + i) n ps' ++ cs) wr)) (fun iv _ => L.length - (intOf iv).toNat)
  case atStart => exact ⟨0, _, by omega, rfl, K0, A3⟩
  case round =>
    clear A3 K0 d0 d1 d2 f0 f1 f2
    obtain ⟨i, ps', hi, rfl, K1, A1⟩ := hrel
    by_cases hlt : i < L.length
    · have m1 : decide ((i : Int) < (L.length : Int)) = true := decide_eq_true (by omega)
      have m2 : (i : Int) < (L.length : Int) := by omega
      obtain ⟨x, hx⟩ : ∃ x, L[i]? = some x := ⟨_, List.getElem?_eq_getElem hlt⟩
      obtain ⟨ao', c', e, _, _, hcell⟩ := HS.out wr A1.out.tail.tail
      simp only [Value.slice.injEq] at e
      obtain ⟨rfl, _, rfl⟩ := e
      obtain ⟨ga, oa, rfl, hga, hra⟩ := hcell i x hx
      obtain ⟨y1, y2, y3, y4, y5, y6, y7⟩ := entAt_of hra
      have hK : ga ≠ wr.heap.size := by omega
      have A2 := hid (A1.out.alloc (.cells #[.int .i64 x.c, .int .i64 x.n, .int .i64 x.k, .string x.nm, .string x.tx, .int .i64 x.m, .int .i64 x.q] 39))
      have HL := hid (lay_any A2.out K1.out.len K1.out.pos K1.out.le (by omega) x)
      have K2 : Hid (LogOk base n (L.take (i + 1)) (ps'.set ((base + i + 1) % n) x)) := hid (by
        have hl : (L.take i).length = i := by simp; omega
        have := K1.out.add (by rw [hl]; omega) (by rw [hl]; omega) x
        rw [hl] at this
        rw [List.take_add_one, hx]
        exact this)
      clear hcell hra A1 A2 K1 hx
      go_wp2_with fail
      refine HL.out.mono ?_
      rintro e w3 ⟨rfl, A3⟩
      have A3 := hid A3
      clear HL y1 y2 y3 y4 y5 y6 y7
      go_wp2
      go_roundw
      case rel => exact ⟨i + 1, _, by omega, by go_num, K2, A3⟩
      case measure => simp [intOf]; omega
    · have m1 : decide ((i : Int) < (L.length : Int)) = false := decide_eq_false (by omega)
      have m2 : ¬ (i : Int) < (L.length : Int) := by omega
      have hi' : Hid (i = L.length) := hid (by omega)
      go_wp2
      go_ret
      refine ⟨rfl, h', ps', ?_, ?_⟩
      · have := K1.out
        rw [hi'.out, List.take_of_length_le (Nat.le_refl _)] at this
        exact this
      · rw [← hi'.out]; exact A1.out
end Go.Proofs.Ythjoppgomopkfaa

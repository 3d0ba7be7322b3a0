import Derived.Test.YtdhkdniddjnigaaGreatDoorHj
import Derived.Test.YtdhkdniddjnigaaGreatDoorHk
namespace Go.Proofs.YtdhkdniddjnigaaGreatDoor
open Go.RowKit
set_option linter.unusedVariables false

/-- How it stands while a line is answered. -/
def Rnd (k : Nat) (s : Gs) (tl : List UInt8) (st : Nat) (ms : List Ms) : Prop :=
  (ms = [] ∧ Idle s ((k + 2 : Nat) : Int) ∧ Told 0 (k + 1) tl) ∨ (∃ mm, ms = [mm] ∧ st = 0 ∧ Busy s ((k + 1 : Nat) : Int) mm ∧ Told 0 k tl)
theorem lnB_told {k : Nat} {tl : List UInt8} (T : Told 0 k tl) (x : List UInt8) (ws : Ws) : Told 0 (k + 1) (tl ++ lnB ((k + 1 : Nat) : Int) (x :: ws)) := by
  unfold lnB
  rw [itoa_nat]
  exact T.snoc (Nat.succ_pos k) (Nat.lt_succ_self k) x ws
theorem lnB_len (no : Int) (l : Ws) : (lnB no l).length ≤ lenJ (Lib.itoa no :: l) + 1 := by
  unfold lnB
  rw [List.length_append]
  exact Nat.add_le_add_right (joinW_le _) 1
theorem refL_lenE {no e : Int} (h0 : 0 ≤ no) (h1 : no ≤ 9223372036854775807) (e0 : 0 ≤ e) (e1 : e ≤ 9223372036854775807) : (refL no e).length ≤ 200000 := by
  have h := lnB_len no [refuB, Lib.itoa e]
  have a := itoa_len h0 h1
  have b := itoa_len e0 e1
  unfold refL
  simp only [lenJ, List.map_cons, List.map_nil, List.sum_cons, List.sum_nil, refuB, List.length_cons, List.length_nil] at h ⊢
  omega
theorem feed_rnd {k : Nat} {s : Gs} {tl l : List UInt8} (h : Idle s ((k + 1 : Nat) : Int)) (hk : k ≤ 100000000) (hl : (10 : UInt8) ∉ l) (T : Told 0 k tl) : Rnd k (feedM 64 s (l ++ [10])).s (tl ++ (feedM 64 s (l ++ [10])).tl) 0 (feedM 64 s (l ++ [10])).ms ∧ (tl ++ (feedM 64 s (l ++ [10])).tl).length ≤ tl.length + 200000 := by
  rcases line_idle h hl with ⟨h1, h2, h3 | ⟨e, e0, e1, h3⟩⟩ | ⟨mm, h1, h2, h3⟩
  · rw [h1, h3, List.append_nil]
    exact ⟨Or.inl ⟨rfl, h2, T.more (Nat.le_succ k)⟩, Nat.le_add_right _ _⟩
  · rw [h1, h3]
    refine ⟨Or.inl ⟨rfl, h2, lnB_told T _ _⟩, ?_⟩
    rw [List.length_append]
    exact Nat.add_le_add_left (refL_lenE (by omega) (by omega) e0 (by omega)) _
  · rw [h1, h2, List.append_nil]
    exact ⟨Or.inr ⟨mm, rfl, rfl, h3, T⟩, Nat.le_add_right _ _⟩
/-- What is answered to a message. -/
def RM (mm : Ms) : Ms := if mm.k = 14 then tpR mm.t mm.n mm.q else rpR 2 0 1 mm.q
theorem ans_told {k : Nat} {tl : List UInt8} (T : Told 0 k tl) (hk : k ≤ 100000000) (rd : Bool) {nd n : Int} (n0 : 0 ≤ n) (n1 : n ≤ 9223372036854775807) (d0 : 0 ≤ nd) (d1 : nd ≤ 9223372036854775807) : Told 0 (k + 1) (tl ++ lnB ((k + 1 : Nat) : Int) (ansW rd nd n)) ∧ (tl ++ lnB ((k + 1 : Nat) : Int) (ansW rd nd n)).length ≤ tl.length + 200000 := by
  refine ⟨?_, ?_⟩
  · unfold ansW
    cases rd
    · exact lnB_told T _ _
    · exact lnB_told T _ _
  · have h1 := (ansW_len (rd := rd) n0 n1 d0 d1 (no := ((k + 1 : Nat) : Int)) (by omega) (by omega)).2
    have h2 := lnB_len ((k + 1 : Nat) : Int) (ansW rd nd n)
    rw [List.length_append]
    omega
set_option maxRecDepth 100000 in
theorem step_busyE {G P k : Nat} {s : Gs} {tl : List UInt8} {mm : Ms} {cs : List Comp} {w w0 : World} (h : Gt G P s tl 4 64 cs w) (E : Evs cs) (hD : ∀ W, All cs W → Cd W) (hin : inC w0 ∈ cs) (hT : Tab w0) (hF : Fld w0) (B : Busy s ((k + 1 : Nat) : Int) mm) (T : Told 0 k tl) (hk : k ≤ 100000000) (htl : tl.length ≤ 40000000000000) :
    Calls Tryz.prog 20 #[.pointer (some ⟨G, 0, none⟩), .agg (RM mm).cells.toArray] w fun e w' => ∃ a c s' tl', e = .returned (.slice a 0 c) ∧ Idle s' ((k + 2 : Nat) : Int) ∧ Told 0 (k + 1) tl' ∧ tl'.length ≤ tl.length + 200000 ∧ Gt G P s' tl' 4 64 (msC (.slice a 0 c) [] :: cs) w' := by
  have hno : ∀ q ∈ s.ws, 0 ≤ q.no ∧ q.no ≤ 4611686018427387904 := fun q hq => by rw [B.ws] at hq; cases hq
  have hws : s.ws.length ≤ 16 := by rw [B.ws]; exact Nat.zero_le _
  have hu : 0 ≤ s.uw ∧ s.uw ≤ 4611686018427387904 := by rw [B.uw]; omega
  obtain ⟨i1, i2, i3, i4, i5, i6, i7⟩ := id B.I
  rcases id B.what with ⟨hk1, hq, q1, w1, w2⟩ | ⟨hk1, hq, q1, w1, w2, hn, hn0, hn1, ht0, ht1⟩
  · have e : RM mm = rpR 2 0 1 mm.q := by unfold RM; rw [hk1, if_neg (by decide)]
    rw [e]
    obtain ⟨a1, a2, a3⟩ := busy_reply (f := 2) (v := 0) (n := 1) (q := mm.q) B hk1 (by decide)
    refine (reply_gt (w0 := w0) 2 0 1 mm.q h E hD hin hT hF B.id w1 hq.symm (by omega) (by omega) (by decide) B.n (by decide) (by decide) B.I (by decide) hno hws hu htl).mono ?_
    rintro e w' ⟨v', rfl, hG⟩
    rw [a1, a2] at hG
    obtain ⟨a, c, rfl⟩ := owns_form hG.rest.1.2.1
    obtain ⟨t1, t2⟩ := ans_told T hk false (nd := 0) (n := 1) (by decide) (by decide) (by decide) (by decide)
    exact ⟨a, c, _, _, rfl, a3, t1, t2, hG⟩
  · have e : RM mm = tpR mm.t mm.n mm.q := by unfold RM; rw [hk1, if_pos rfl]
    rw [e]
    obtain ⟨a1, a2, a3⟩ := busy_told (f := mm.t) (n := mm.n) (q := mm.q) B hk1 ⟨hn0, hn1⟩
    refine (told_gt (w0 := w0) mm.t mm.n mm.q h E hD hin hT hF B.id w1 hq.symm (by omega) (by omega) (by omega) ⟨ht0, ht1⟩ B.n ⟨hn0, hn1⟩ B.I (by decide) hno hws hu htl).mono ?_
    rintro e w' ⟨v', rfl, hG⟩
    rw [a1, a2] at hG
    obtain ⟨a, c, rfl⟩ := owns_form hG.rest.1.2.1
    obtain ⟨t1, t2⟩ := ans_told T hk true (nd := mm.t) (n := mm.n) hn0 (by omega) ht0 (by omega)
    exact ⟨a, c, _, _, rfl, a3, t1, t2, hG⟩
theorem feed_line {G P k : Nat} {s : Gs} {tl l : List UInt8} {cs : List Comp} {w : World} {v : Value} (h : Gt G P s tl 4 64 cs w) (E : Evs cs) (I : Idle s ((k + 1 : Nat) : Int)) (T : Told 0 k tl) (hR : ∀ W, All cs W → Reads W v (l ++ [10])) (hl : l.length ≤ 900000000) (h10 : (10 : UInt8) ∉ l) (hk : k ≤ 100000000) (ht : tl.length ≤ 10000000000000) :
    Calls Tryz.prog 14 #[.pointer (some ⟨G, 0, none⟩), v] w fun e w' => ∃ a c s' tl' ms, e = .returned (.slice a (List.length (α := Ms) ms) c) ∧ Rnd k s' tl' 0 ms ∧ tl'.length ≤ tl.length + 200000 ∧ Gt G P s' tl' 4 64 (msC (.slice a ms.length c) ms :: cs) w' := by
  have hI : GsI s 64 200000000 := ⟨⟨fun _ => I.tx, by rw [I.tx]; exact Nat.zero_le _⟩, I.I, by rw [I.no]; omega, by rw [I.no]; omega, fun q hq => (by rw [I.ws] at hq; cases hq), by rw [I.ws]; exact Nat.zero_le _⟩
  obtain ⟨r1, r2⟩ := feed_rnd (l := l) I hk h10 T
  refine (feed_gt (l := l ++ [10]) h E hI hR (by simp; omega) (by decide) ht).mono ?_
  rintro e w' ⟨v', rfl, hG⟩
  obtain ⟨a, c, rfl⟩ := owns_form hG.rest.1.2.1
  exact ⟨a, c, _, _, _, rfl, r1, r2, hG⟩
theorem rnd_len {k : Nat} {s : Gs} {tl : List UInt8} {st : Nat} {ms : List Ms} (h : Rnd k s tl st ms) : (ms.length = 0 → ms = [] ∧ Idle s ((k + 2 : Nat) : Int) ∧ Told 0 (k + 1) tl) ∧ (ms.length ≠ 0 → ∃ mm, ms = [mm] ∧ st = 0 ∧ Busy s ((k + 1 : Nat) : Int) mm ∧ Told 0 k tl) := by
  rcases h with h | ⟨mm, h1, h2⟩
  · exact ⟨fun _ => h, fun hh => absurd (by rw [h.1]; rfl) hh⟩
  · exact ⟨fun hh => by rw [h1] at hh; simp at hh, fun _ => ⟨mm, h1, h2⟩⟩
end Go.Proofs.YtdhkdniddjnigaaGreatDoor

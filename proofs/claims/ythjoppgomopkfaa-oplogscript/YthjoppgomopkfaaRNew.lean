import Derived.Test.YthjoppgomopkfaaRefA
namespace Go.Proofs.Ythjoppgomopkfaa
open Go.RowKit
set_option linter.unusedVariables false

/-- The greatest number of a client. -/
def newestL (cl : Int) : Int → List Ent → Int
  | a, [] => a
  | a, e :: t => newestL cl (if e.c = cl ∧ a < e.n then e.n else a) t
theorem newestL_snoc (cl : Int) : ∀ (a : Int) (l : List Ent) (e : Ent), newestL cl a (l ++ [e]) = (if e.c = cl ∧ newestL cl a l < e.n then e.n else newestL cl a l)
  | a, [], e => rfl
  | a, x :: l, e => newestL_snoc cl _ l e

set_option maxHeartbeats 800000 in
set_option maxRecDepth 1000000 in
theorem rNewest_any {p n b : Nat} {v : Value} {l : List Ent} {cs : List Comp} {w : World} (hA : All (refP p n b v l ++ cs) w) (hl : l.length ≤ 64) (cl : Int) : Calls Try.prog 34 #[.pointer (some ⟨p, 0, none⟩), .int .i64 cl] w fun e w' => e = .returned (.int .i64 (newestL cl 0 l)) ∧ Below w.heap.size w w' := by
  obtain ⟨ao, c, rfl, hc⟩ := owns7_form hA.refRow
  have c2 := hA.ref.c2
  have HE : Hid (∀ W, Below w.heap.size w W → ∀ i x, l[i]? = some x → ∃ g, ao = some ⟨g, 0, none⟩ ∧ g < W.heap.size ∧ entAt W g (i * 7) x) := hid (fun W hb i x hx => by
    obtain ⟨g, rfl, hg, hr⟩ := owns7 hA.refRow hx
    exact ⟨g, rfl, Nat.lt_of_lt_of_le hg hb.size, entAt_of (fun j v hv => cell_under hb hg (hr j v hv))⟩)
  clear hA
  go_enter Try.func34, Try.ntmps34
  go_wp2
  go_loopw [5, 13] (fun nv iv wr => ∃ (i : Nat), i ≤ l.length ∧ iv = .int .i64 (i : Int) ∧ nv = .int .i64 (newestL cl 0 (l.take i)) ∧ Hid (Below w.heap.size w wr)) (fun _ iv _ => l.length - (intOf iv).toNat)
  case atStart => exact ⟨0, by omega, rfl, rfl, hid (Below.refl _ _)⟩
  case round =>
    obtain ⟨i, hi, rfl, rfl, HB⟩ := hrel
    by_cases hlt : i < l.length
    · have m1 : decide ((i : Int) < (l.length : Int)) = true := decide_eq_true (by omega)
      have m2 : (i : Int) < (l.length : Int) := by omega
      obtain ⟨x, hx⟩ : ∃ x, l[i]? = some x := ⟨_, List.getElem?_eq_getElem hlt⟩
      obtain ⟨g, rfl, hg, y1, y2, y3, y4, y5, y6, y7⟩ := HE.out wr HB.out i x hx
      have hK : g ≠ wr.heap.size := by omega
      have HT : Hid (newestL cl 0 (l.take (i + 1)) = (if x.c = cl ∧ newestL cl 0 (l.take i) < x.n then x.n else newestL cl 0 (l.take i))) := hid (by
        rw [List.take_add_one, hx]; exact newestL_snoc cl 0 (l.take i) x)
      have HB2 := hid (below2 HB.out (ba wr (.cells #[.int .i64 x.c, .int .i64 x.n, .int .i64 x.k, .string x.nm, .string x.tx, .int .i64 x.m, .int .i64 x.q] 39)))
      clear hx HB HE
      generalize newestL cl 0 (l.take i) = a at *
      by_cases h1 : x.c = cl
      · have q1 : (x.c == cl) = true := by simpa using h1
        have H1 := hid h1
        clear h1
        by_cases h2 : a < x.n
        · have q2 : decide (a < x.n) = true := decide_eq_true h2
          go_wp2
          go_roundw
          case rel => exact ⟨i + 1, by omega, by go_num, by rw [HT.out, if_pos ⟨H1.out, h2⟩], HB2⟩
          case measure => simp [intOf]; omega
        · have q2 : decide (a < x.n) = false := decide_eq_false h2
          go_wp2
          go_roundw
          case rel => exact ⟨i + 1, by omega, by go_num, by rw [HT.out, if_neg (fun h => h2 h.2)], HB2⟩
          case measure => simp [intOf]; omega
      · have q1 : (x.c == cl) = false := by simpa using h1
        go_wp2
        go_roundw
        case rel => exact ⟨i + 1, by omega, by go_num, by rw [HT.out, if_neg (fun h => h1 h.1)], HB2⟩
        case measure => simp [intOf]; omega
    · have m1 : decide ((i : Int) < (l.length : Int)) = false := decide_eq_false (by omega)
      have m2 : ¬ (i : Int) < (l.length : Int) := by omega
      have hi' : Hid (l.take i = l) := hid (List.take_of_length_le (by omega))
      go_wp2
      go_ret
      exact ⟨by rw [hi'.out]; rfl, HB.out⟩
end Go.Proofs.Ythjoppgomopkfaa

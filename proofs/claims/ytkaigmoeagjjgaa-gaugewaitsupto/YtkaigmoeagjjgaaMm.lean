import Derived.Test.YtkaigmoeagjjgaaMe
namespace Go.Proofs.Ytkaigmoeagjjgaa
open Go.RowKit
set_option linter.unusedVariables false
attribute [local go_sem] run_store_float

def minI : List Int → Int
  | [] => 0
  | a :: t => t.foldl (fun m x => if x < m then x else m) a
def maxI : List Int → Int
  | [] => 0
  | a :: t => t.foldl (fun m x => if m < x then x else m) a
theorem minI_snoc {l : List Int} (h : 0 < l.length) (x : Int) : minI (l ++ [x]) = if x < minI l then x else minI l := by
  cases l with
  | nil => simp at h
  | cons a t =>
    show (t ++ [x]).foldl _ a = _
    rw [List.foldl_append]; rfl
theorem maxI_snoc {l : List Int} (h : 0 < l.length) (x : Int) : maxI (l ++ [x]) = if maxI l < x then x else maxI l := by
  cases l with
  | nil => simp at h
  | cons a t =>
    show (t ++ [x]).foldl _ a = _
    rw [List.foldl_append]; rfl
theorem minI_one {l : List Int} {x : Int} (h : l[0]? = some x) : minI (l.take 1) = x := by
  cases l with
  | nil => simp at h
  | cons a t => simp at h; subst h; rfl
theorem maxI_one {l : List Int} {x : Int} (h : l[0]? = some x) : maxI (l.take 1) = x := by
  cases l with
  | nil => simp at h
  | cons a t => simp at h; subst h; rfl

set_option maxHeartbeats 1000000 in
theorem Min_any {w : World} {v : Value} {l : List Int} (h : IntsAt w v l) (h0 : 0 < l.length) (hn : l.length ≤ 4096) : Calls Try.prog 29 #[v] w fun e w' => e = .returned (.int .i64 (minI l)) ∧ w' = w := by
  obtain ⟨ao, c, rfl⟩ := h.form
  obtain ⟨hc, _⟩ := h.cap
  have hH := hid h
  obtain ⟨x0, hx0⟩ : ∃ x, l[0]? = some x := ⟨_, List.getElem?_eq_getElem h0⟩
  obtain ⟨b, off, rfl, hb, hc0⟩ := h.at hx0
  rw [Nat.add_zero] at hc0
  clear h
  have m1 := hid (minI_one hx0)
  clear hx0
  go_enter Try.func29, Try.ntmps29
  go_wp2
  go_loopw [3, 4] (fun m i wr => ∃ k : Nat, 1 ≤ k ∧ k ≤ l.length ∧ m = .int .i64 (minI (l.take k)) ∧ i = .int .i64 k ∧ wr = w) (fun _ i _ => l.length - (intOf i).toNat)
  case atStart => exact ⟨1, Nat.le_refl _, by omega, by rw [m1.out], rfl, rfl⟩
  case round =>
    obtain ⟨k, h1, hk, rfl, rfl, rfl⟩ := hrel
    by_cases hlt : k < l.length
    · obtain ⟨x, hx⟩ : ∃ x, l[k]? = some x := ⟨_, List.getElem?_eq_getElem hlt⟩
      obtain ⟨b', off', e, hb', hcx⟩ := hH.out.at hx
      simp only [Option.some.injEq, Addr.mk.injEq, and_true] at e
      obtain ⟨rfl, rfl⟩ := e
      have hsn := hid (show minI (l.take (k + 1)) = _ by rw [take_snoc hx, minI_snoc (by simp; omega)])
      generalize minI (l.take k) = M at hsn ⊢
      clear hx m1
      go_wp2
      exact ⟨⟨k + 1, by omega, by omega, by rw [hsn.out], rfl, trivial⟩, by simp [intOf]; omega⟩
    · obtain rfl : k = l.length := by omega
      rw [List.take_length]
      go_wp2
      go_ret
      exact ⟨rfl, rfl⟩

set_option maxHeartbeats 1000000 in
theorem Max_any {w : World} {v : Value} {l : List Int} (h : IntsAt w v l) (h0 : 0 < l.length) (hn : l.length ≤ 4096) : Calls Try.prog 30 #[v] w fun e w' => e = .returned (.int .i64 (maxI l)) ∧ w' = w := by
  obtain ⟨ao, c, rfl⟩ := h.form
  obtain ⟨hc, _⟩ := h.cap
  have hH := hid h
  obtain ⟨x0, hx0⟩ : ∃ x, l[0]? = some x := ⟨_, List.getElem?_eq_getElem h0⟩
  obtain ⟨b, off, rfl, hb, hc0⟩ := h.at hx0
  rw [Nat.add_zero] at hc0
  clear h
  have m1 := hid (maxI_one hx0)
  clear hx0
  go_enter Try.func30, Try.ntmps30
  go_wp2
  go_loopw [3, 4] (fun m i wr => ∃ k : Nat, 1 ≤ k ∧ k ≤ l.length ∧ m = .int .i64 (maxI (l.take k)) ∧ i = .int .i64 k ∧ wr = w) (fun _ i _ => l.length - (intOf i).toNat)
  case atStart => exact ⟨1, Nat.le_refl _, by omega, by rw [m1.out], rfl, rfl⟩
  case round =>
    obtain ⟨k, h1, hk, rfl, rfl, rfl⟩ := hrel
    by_cases hlt : k < l.length
    · obtain ⟨x, hx⟩ : ∃ x, l[k]? = some x := ⟨_, List.getElem?_eq_getElem hlt⟩
      obtain ⟨b', off', e, hb', hcx⟩ := hH.out.at hx
      simp only [Option.some.injEq, Addr.mk.injEq, and_true] at e
      obtain ⟨rfl, rfl⟩ := e
      have hsn := hid (show maxI (l.take (k + 1)) = _ by rw [take_snoc hx, maxI_snoc (by simp; omega)])
      generalize maxI (l.take k) = M at hsn ⊢
      clear hx m1
      go_wp2
      exact ⟨⟨k + 1, by omega, by omega, by rw [hsn.out], rfl, trivial⟩, by simp [intOf]; omega⟩
    · obtain rfl : k = l.length := by omega
      rw [List.take_length]
      go_wp2
      go_ret
      exact ⟨rfl, rfl⟩

/-- a measure -/
structure Mz where
  c : Int
  l : Int
  m : Int
  me : Nat
  de : Nat
abbrev Mz.cells (x : Mz) : List Value := [.int .i64 x.c, .int .i64 x.l, .int .i64 x.m, .float .f64 x.me, .float .f64 x.de]
abbrev Mz.V (x : Mz) : Value := .agg #[.int .i64 x.c, .int .i64 x.l, .int .i64 x.m, .float .f64 x.me, .float .f64 x.de]
def Mz.zero : Mz := ⟨0, 0, 0, 0, 0⟩
def ofE (n : Nat) : Int := if 4096 < n then 220 else if n = 0 then 222 else 0
def ofM (l : List Int) : Mz := ⟨l.length, minI l, maxI l, meanF l, devF l (meanF l)⟩
theorem mean_nn {l : List Int} (hs : Sm l) (h0 : 0 < l.length) (hn : l.length ≤ 4096) : Flt.NN (meanF l) := (div_some (sumF_nn l hs) h0 hn).2.1

set_option maxHeartbeats 1000000 in
theorem Of_bad {w : World} {v : Value} {l : List Int} (h : IntsAt w v l) (hb : 4096 < l.length ∨ l.length = 0) : Calls Try.prog 11 #[v] w fun e w' => e = .returned (.tuple #[.agg #[.int .i64 0, .int .i64 0, .int .i64 0, .float .f64 0, .float .f64 0], .int .i64 (ofE l.length)]) ∧ Below w.heap.size w w' := by
  obtain ⟨ao, c, rfl⟩ := h.form
  obtain ⟨R, hR⟩ : ∃ R, Hid (R = ofE l.length) := ⟨_, rfl⟩
  have hne : (R != 0) = true := by
    rw [hR.out]; unfold ofE
    rcases hb with hb | hb
    · rw [if_pos hb]; rfl
    · rw [hb]; rfl
  have ck := check_any (w := w.alloc (.cells #[.int .i64 0, .int .i64 0, .int .i64 0, .float .f64 0, .float .f64 0] 27)) (ao := ao) (n := l.length) (c := c)
  change Calls _ _ _ _ (fun e w' => e = .returned (.int .i64 (ofE l.length)) ∧ _) at ck
  rw [← hR.out] at ck ⊢
  clear hb h hR
  go_enter Try.func11, Try.ntmps11
  go_wp2_with fail
  refine ck.mono ?_
  rintro e w1 ⟨rfl, rfl⟩
  go_wp2
  refine bodyPost_ret (v := .tuple #[.agg #[.int .i64 0, .int .i64 0, .int .i64 0, .float .f64 0, .float .f64 0], .int .i64 R]) ?_ rfl ?_
  · simp only [results, show Try.f11.results = #[.cell 2 27, .tmp 3] from rfl]
    go_simp
    done
  · exact ⟨rfl, (Below.refl _ w).alloc (Nat.le_refl _) _⟩

set_option maxHeartbeats 1000000 in
theorem Of_ok {w : World} {v : Value} {l : List Int} (h : IntsAt w v l) (hs : Sm l) (h0 : 0 < l.length) (hn : l.length ≤ 4096) : Calls Try.prog 11 #[v] w fun e w' => e = .returned (.tuple #[.agg #[.int .i64 l.length, .int .i64 (minI l), .int .i64 (maxI l), .float .f64 (meanF l), .float .f64 (devF l (meanF l))], .int .i64 0]) ∧ Below w.heap.size w w' := by
  obtain ⟨ao, c, rfl⟩ := h.form
  obtain ⟨w1, hw1⟩ : ∃ w1, w1 = w.alloc (.cells #[.int .i64 0, .int .i64 0, .int .i64 0, .float .f64 0, .float .f64 0] 27) := ⟨_, rfl⟩
  have hb : Below w.heap.size w w1 := by rw [hw1]; exact (Below.refl _ w).alloc (Nat.le_refl _) _
  have h1 := h.later hb
  have ck := check_any (w := w1) (ao := ao) (n := l.length) (c := c)
  rw [if_neg (by omega), if_neg (by omega)] at ck
  have cm := meanOf_any h1 hs h0 hn
  have ci := Min_any h1 h0 hn
  have cx := Max_any h1 h0 hn
  have cd := deviation_any h1 hs h0 hn (mean_nn hs h0 hn)
  generalize meanF l = M at cm cd ⊢
  generalize devF l M = D at cd ⊢
  generalize minI l = A at ci ⊢
  generalize maxI l = Z at cx ⊢
  subst hw1
  clear h h1 hs hb
  go_enter Try.func11, Try.ntmps11
  go_wp2_with fail
  refine ck.mono ?_
  rintro e w1 ⟨rfl, rfl⟩
  go_wp2_with fail
  refine cm.mono ?_
  rintro e w1 ⟨rfl, rfl⟩
  go_wp2_with fail
  refine ci.mono ?_
  rintro e w1 ⟨rfl, rfl⟩
  go_wp2_with fail
  refine cx.mono ?_
  rintro e w1 ⟨rfl, rfl⟩
  go_wp2_with fail
  refine cd.mono ?_
  rintro e w1 ⟨rfl, rfl⟩
  go_wp2
  refine bodyPost_ret (v := .tuple #[.agg #[.int .i64 l.length, .int .i64 A, .int .i64 Z, .float .f64 M, .float .f64 D], .int .i64 0]) ?_ rfl ?_
  · simp only [results, show Try.f11.results = #[.cell 2 27, .tmp 3] from rfl]
    go_simp
    done
  · exact ⟨rfl, (Below.refl _ w).alloc (Nat.le_refl _) _⟩
end Go.Proofs.Ytkaigmoeagjjgaa

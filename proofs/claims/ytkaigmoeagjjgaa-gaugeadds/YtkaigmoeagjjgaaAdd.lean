import Derived.Test.YtkaigmoeagjjgaaTot
namespace Go.Proofs.Ytkaigmoeagjjgaa
open Go.RowKit
set_option linter.unusedVariables false

def sumL (xs : List Int) : Int := xs.foldl (· + ·) 0
theorem sumL_snoc (xs : List Int) (x : Int) : sumL (xs ++ [x]) = sumL xs + x := by simp [sumL]
theorem sumL_cons (a : Int) (xs : List Int) : sumL (a :: xs) = a + sumL xs := by
  have key : ∀ (ys : List Int) (s : Int), ys.foldl (· + ·) s = s + ys.foldl (· + ·) 0 := by
    intro ys
    induction ys with
    | nil => intro s; simp
    | cons y ys ih => intro s; simp only [List.foldl_cons]; rw [ih (s + y), ih (0 + y)]; omega
  unfold sumL
  rw [List.foldl_cons, key]
  omega
theorem range_sum_add (f g : Nat → Int) : ∀ n, sumL ((List.range n).map fun i => f i + g i) = sumL ((List.range n).map f) + sumL ((List.range n).map g)
  | 0 => rfl
  | n + 1 => by
    rw [List.range_succ, List.map_append, List.map_append, List.map_append]
    simp only [List.map_cons, List.map_nil]
    rw [sumL_snoc, sumL_snoc, sumL_snoc, range_sum_add f g n]
    omega
theorem range_sum_ind (k : Nat) : ∀ n, sumL ((List.range n).map fun i => if k = i then (1 : Int) else 0) = if k < n then 1 else 0
  | 0 => by simp [sumL]
  | n + 1 => by
    rw [List.range_succ, List.map_append]
    simp only [List.map_cons, List.map_nil]
    rw [sumL_snoc, range_sum_ind k n]
    by_cases c : k < n
    · rw [if_pos c, if_neg (show ¬ k = n by omega), if_pos (show k < n + 1 by omega)]; omega
    · by_cases d : k = n
      · rw [if_neg c, if_pos d, if_pos (show k < n + 1 by omega)]; omega
      · rw [if_neg c, if_neg d, if_neg (show ¬ k < n + 1 by omega)]; omega
theorem range_sum_zero : ∀ n : Nat, sumL ((List.range n).map fun _ => (0 : Int)) = 0
  | 0 => rfl
  | n + 1 => by
    rw [List.range_succ, List.map_append]
    simp only [List.map_cons, List.map_nil]
    rw [sumL_snoc, range_sum_zero n]; rfl
/-- bars add up -/
theorem bars_sum (es : List Int) : ∀ l : List Int, sumL (barsL l es) = l.length
  | [] => by
    unfold barsL
    have := range_sum_zero (es.length + 1)
    simpa using this
  | x :: l => by
    have ih := bars_sum es l
    unfold barsL at ih ⊢
    have e : (List.range (es.length + 1)).map (fun i => (((x :: l).countP (fun y => decide (nb es y = i)) : Nat) : Int)) = (List.range (es.length + 1)).map (fun i => ((l.countP (fun y => decide (nb es y = i)) : Nat) : Int) + (if nb es x = i then (1 : Int) else 0)) := by
      refine List.map_congr_left fun i _ => ?_
      rw [List.countP_cons]
      by_cases c : nb es x = i
      · simp [c]
      · simp [c]
    rw [e, range_sum_add, ih, range_sum_ind, if_pos (by have := nb_le es x; omega)]
    simp
theorem bars_nn {l es : List Int} {k : Nat} {x : Int} (h : (barsL l es)[k]? = some x) : 0 ≤ x := by
  have hk := (List.getElem?_eq_some_iff.1 h).1
  rw [barsL_len] at hk
  rw [barsL_at l es hk] at h
  have := Option.some.inj h
  omega
theorem sumL_take_le {xs : List Int} (h : ∀ x ∈ xs, 0 ≤ x) : ∀ k, 0 ≤ sumL (xs.take k) ∧ sumL (xs.take k) ≤ sumL xs := by
  induction xs with
  | nil => intro k; simp [sumL]
  | cons a t ih =>
    intro k
    have ha := h a (by simp)
    have iht := ih (fun x hx => h x (by simp [hx]))
    cases k with
    | zero =>
      have := (iht t.length)
      rw [List.take_length] at this
      rw [List.take_zero, sumL_cons]
      exact ⟨by simp [sumL], by have e : sumL [] = 0 := rfl; rw [e]; omega⟩
    | succ k =>
      have := iht k
      rw [List.take_succ_cons, sumL_cons, sumL_cons]
      omega

set_option maxHeartbeats 4000000 in
theorem adds_law {w : World} {v u : Value} {l es : List Int} (h : IntsAt w v l) (h2 : IntsAt w u es) : Calls Try.prog 8 #[v, u] w fun e w' => e = .returned (.bool true) ∧ Below w.heap.size w w' := by
  obtain ⟨ao, c, rfl⟩ := h.form
  obtain ⟨bo, d, rfl⟩ := h2.form
  have H := hid h
  have H2 := hid h2
  clear h h2
  go_enter Try.func8, Try.ntmps8
  go_wp2_with fail
  refine shown_any.mono ?_
  rintro e w1 ⟨rfl, hb1⟩
  have HB1 := hid hb1
  have cB := hid (Bars_tot (H.out.later hb1) (H2.out.later hb1))
  clear hb1
  go_wp2_with fail
  refine cB.out.mono ?_
  rintro e w2 ⟨x, rfl, hx, hb2⟩
  obtain ⟨oo, oc, rfl⟩ := hx.form
  have HX := hid hx
  have hcap := hx.cap.1
  have HB2 := hid (HB1.out.trans (hb2.mono HB1.out.size))
  by_cases hE : barE l es = 0
  · have hbar : barO l es = barsL l es := by unfold barO; rw [if_pos hE]
    have hlen : (barsL l es).length = es.length + 1 := barsL_len l es
    have hle : l.length ≤ 4096 ∧ es.length ≤ 4096 := by
      unfold barE at hE
      by_cases c : 4096 < l.length ∨ 4096 < es.length
      · rw [if_pos c] at hE; exact absurd hE (by decide)
      · omega
    rw [hbar] at HX hcap ⊢
    rw [hE]
    have HN := hid (fun (k : Nat) (x : Int) => bars_nn (l := l) (es := es) (k := k) (x := x))
    have HS := hid (bars_sum es l)
    have HT := hid (sumL_take_le (xs := barsL l es) (fun x hx => by obtain ⟨k, hk⟩ := List.mem_iff_getElem?.1 hx; exact bars_nn hk))
    generalize barsL l es = B at HX hcap HN HS HT hlen ⊢
    rw [hlen] at hcap ⊢
    have HLen := hid hlen
    obtain ⟨hl4, he4⟩ := hle
    clear hbar hE hx hb2 cB hlen
    go_wp2
    go_loopw [7, 8] (fun s i wx => ∃ k : Nat, k ≤ es.length + 1 ∧ s = .int .i64 (sumL (B.take k)) ∧ i = .int .i64 (k : Int) ∧ wx = w2) (fun _ i _ => es.length + 1 - (intOf i).toNat)
    case atStart => exact ⟨0, Nat.zero_le _, rfl, rfl, rfl⟩
    case round =>
      obtain ⟨k, hk, rfl, rfl, rfl⟩ := hrel
      by_cases hlt : k < es.length + 1
      · obtain ⟨x, hx⟩ : ∃ x, B[k]? = some x := ⟨_, List.getElem?_eq_getElem (by rw [HLen.out]; exact hlt)⟩
        obtain ⟨g, off, rfl, hg, cx⟩ := HX.out.at hx
        have x0 := HN.out k x hx
        have hsn := hid (show sumL (B.take (k + 1)) = sumL (B.take k) + x by rw [take_snoc hx, sumL_snoc])
        have t1 := HT.out k
        have t2 := HT.out (k + 1)
        rw [HS.out] at t1 t2
        rw [hsn.out] at t2
        generalize sumL (B.take k) = S at hsn t1 t2 ⊢
        obtain ⟨t1a, t1b⟩ := t1
        obtain ⟨t2a, t2b⟩ := t2
        have dx : decide (x < 0) = false := decide_eq_false (by omega)
        have wS : IntKind.i64.wrap (S + x) = S + x := by rw [IntKind.wrap_i64]; omega
        clear hx
        go_wp2
        exact ⟨⟨k + 1, by omega, by rw [hsn.out], rfl, trivial⟩, by simp [intOf]; omega⟩
      · obtain rfl : k = es.length + 1 := by omega
        have hfin : sumL (B.take (es.length + 1)) = l.length := by rw [← HS.out, ← HLen.out, List.take_length]
        rw [hfin]
        clear hfin
        go_wp2
        go_ret
        exact ⟨rfl, HB2.out⟩
  · have hne : (barE l es != 0) = true := by simpa using hE
    have hbar : barO l es = [] := by unfold barO; rw [if_neg hE]
    have hEE : barE l es = 220 ∨ barE l es = 1 := by
      unfold barE at hE ⊢
      split
      · exact Or.inl rfl
      · rename_i c
        rw [if_neg c] at hE
        split
        · rename_i c2; rw [if_pos c2] at hE; exact absurd rfl hE
        · exact Or.inr rfl
    rw [hbar]
    rcases hEE with e | e
    · rw [e]
      clear hne hE e hbar hx hb2 cB HX hcap
      go_wp2
      go_ret
      exact ⟨rfl, HB2.out⟩
    · rw [e]
      clear hne hE e hbar hx hb2 cB HX hcap
      go_wp2
      go_ret
      exact ⟨rfl, HB2.out⟩
end Go.Proofs.Ytkaigmoeagjjgaa

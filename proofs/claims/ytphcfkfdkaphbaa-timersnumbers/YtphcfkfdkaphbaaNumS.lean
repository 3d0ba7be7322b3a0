import Derived.Test.YtphcfkfdkaphbaaCpl
import Derived.Test.YtphcfkfdkaphbaaPat
namespace Go.Proofs.Ytphcfkfdkaphbaa
open Go.RowKit Go.Maps
set_option linter.unusedVariables false

theorem All.tabI_fit {P b n : Nat} {D : DataW Unit} {cs : List Comp} {w : World} (h : All (tabI P b n D :: cs) w) : All (tabI P b (Maps.size D) D :: cs) w := by
  obtain ⟨⟨g, ⟨h1, es, clock, hb, F, hs, hD⟩, hl⟩, hd, hr⟩ := h
  refine ⟨⟨tabI_good _ _ _ _, ⟨h1, es, clock, hb, F, ?_, hD⟩, hl⟩, hd, hr⟩
  rw [hD]
  simp [Maps.size, length_sorted]

theorem All.tabI_size {P b n : Nat} {D : DataW Unit} {cs : List Comp} {w : World} {ts : List Tm} (h : All (tabI P b n D :: cs) w) (hc : Cp D ts) : Maps.size D = ts.length := by
  obtain ⟨es, hD, hp, hk⟩ := h.1.2.1.2.entries lawI
  exact hc.size hD hp hk

/-- What Arm answers, and what comes of it. -/
def armE (D : DataW Unit) (k m : Int) : Int := if m < 1 ∨ 1024 < m then 30 else if Maps.has D (lI k) = false ∧ 32 ≤ Maps.size D then 31 else 0
def armD (D : DataW Unit) (k m : Int) : DataW Unit := if m < 1 ∨ 1024 < m then D else if Maps.has D (lI k) = false ∧ 32 ≤ Maps.size D then D else D.put (lI k) (.lit (.int .i64 m))

theorem ArmIP {P b n : Nat} {D : DataW Unit} {cs : List Comp} {w : World} (h : All (tabI P b n D :: cs) w) (hz : Maps.size D ≤ 32) (k : Int) (hk : (lI k).wf = true) (m : Int) : Calls Try.prog 18 #[.pointer (some ⟨P, 0, none⟩), .int .i64 k, .int .i64 m] w fun e w' => e = .returned (.int .i64 (armE D k m)) ∧ All (tabI P b (Maps.size (armD D k m)) (armD D k m) :: cs) w' := by
  have hf := h.tabI_fit
  by_cases hm : m < 1 ∨ 1024 < m
  · rw [armE, armD, if_pos hm, if_pos hm]
    refine (ArmI_ticks hf k hm).mono ?_
    rintro e w' ⟨rfl, rfl⟩
    exact ⟨rfl, hf⟩
  · rw [armE, armD, if_neg hm, if_neg hm]
    by_cases hc : Maps.has D (lI k) = false ∧ 32 ≤ Maps.size D
    · rw [if_pos hc, if_pos hc]
      refine (ArmI_full hf k hk (by omega) (by omega) hc.1 hc.2 (by omega)).mono ?_
      rintro e w' ⟨rfl, rfl⟩
      exact ⟨rfl, hf⟩
    · rw [if_neg hc, if_neg hc]
      refine (ArmI_ok hf k hk (by omega) (by omega) (by omega) ?_).mono ?_
      · cases hh : Maps.has D (lI k) with
        | true => exact .inl rfl
        | false => exact .inr (by have : ¬ 32 ≤ Maps.size D := fun h32 => hc ⟨hh, h32⟩; omega)
      · rintro e w' ⟨rfl, hA⟩
        exact ⟨rfl, hA.tabI_fit⟩

theorem Cp.del_none {D : DataW Unit} {ts : List Tm} (h : Cp D ts) {k : Int} (hh : Maps.has D (lI k) = false) (hne : ∀ x ∈ ts, x.k ≠ k) : Cp (D.del (lI k)) ts := by
  refine ⟨h.srt, h.txt, h.lft, h.wf, fun kl => ?_, fun x hx => ?_⟩
  · by_cases e : kl = lI k
    · subst e
      rw [Maps.has_del_same, ← h.has, hh]
    · rw [Maps.has_del_other e, h.has]
  · rw [leftD_del_other (fun e => hne x hx (by simpa using e))]
    exact h.val x hx

theorem RCancelP {R : Nat} {v : Value} {ts : List Tm} {D : DataW Unit} {cs : List Comp} {w : World} (h : All (refC R v ts :: cs) w) (hc : Cp D ts) (hl : ts.length ≤ 32) (k : Int) : Calls Try.prog 17 #[.pointer (some ⟨R, 0, none⟩), .agg #[.string e0, .int .i64 k]] w fun e w' => ∃ v' ts', e = .returned (.bool (Maps.has D (lI k))) ∧ All (refC R v' ts' :: cs) w' ∧ Cp (D.del (lI k)) ts' ∧ ts'.length ≤ 32 := by
  rcases hc.place k with ⟨h1, h2, h3⟩ | ⟨p, x, h1, h2, h3, h4⟩
  · refine (RCancel_no h (by omega) e0 k h1).mono ?_
    rintro e w' ⟨rfl, hA⟩
    exact ⟨v, ts, by rw [h2], hA, hc.del_none h2 h3, hl⟩
  · refine (RCancel_yes h (by omega) e0 k h1).mono ?_
    rintro e w' ⟨v', rfl, hA⟩
    subst h3
    exact ⟨v', _, by rw [h4], hA, hc.cancel h2, by have := List.length_eraseIdx_le ts p; omega⟩

theorem RArmP {R : Nat} {v : Value} {ts : List Tm} {D : DataW Unit} {cs : List Comp} {w : World} (h : All (refC R v ts :: cs) w) (hc : Cp D ts) (hM : Maps.IsMap D) (hz : Maps.size D = ts.length) (hl : ts.length ≤ 32) (k : Int) (hk : (lI k).wf = true) (m : Int) : Calls Try.prog 19 #[.pointer (some ⟨R, 0, none⟩), .agg #[.string e0, .int .i64 k], .int .i64 m] w fun e w' => ∃ v' ts', e = .returned (.int .i64 (armE D k m)) ∧ All (refC R v' ts' :: cs) w' ∧ Cp (armD D k m) ts' ∧ ts'.length ≤ 32 := by
  by_cases hm : m < 1 ∨ 1024 < m
  · rw [armE, armD, if_pos hm, if_pos hm]
    refine (RArm_ticks e0 k hm).mono ?_
    rintro e w' ⟨rfl, hb⟩
    exact ⟨v, ts, rfl, h.later hb, hc, hl⟩
  · rw [armE, armD, if_neg hm, if_neg hm]
    rcases hc.place k with ⟨h1, h2, h3⟩ | ⟨p, x, h1, h2, h3, h4⟩
    · by_cases h32 : 32 ≤ ts.length
      · rw [if_pos ⟨h2, by omega⟩, if_pos ⟨h2, by omega⟩]
        refine (RArm_full h (by omega) e0 k (by omega) (by omega) h1 h32).mono ?_
        rintro e w' ⟨rfl, hA⟩
        exact ⟨v, ts, rfl, hA, hc, hl⟩
      · rw [if_neg (fun hh => h32 (by have := hh.2; omega)), if_neg (fun hh => h32 (by have := hh.2; omega))]
        refine (RArm_new h e0 k (by omega) (by omega) h1 (by omega)).mono ?_
        rintro e w' ⟨v', rfl, hA⟩
        exact ⟨v', _, rfl, hA, hc.new hM hk h3 (by omega) (by omega), by rw [insT_eq _ rfl hc.txt, insR_len]; omega⟩
    · rw [if_neg (fun hh => by rw [h4] at hh; cases hh.1), if_neg (fun hh => by rw [h4] at hh; cases hh.1)]
      refine (RArm_there h (by omega) e0 k (by omega) (by omega) h1 h2).mono ?_
      rintro e w' ⟨rfl, hA⟩
      subst h3
      exact ⟨v, _, rfl, hA, hc.again hM h2 (by omega) (by omega), by simpa using hl⟩

/-- Two tables, the document's beside them. -/
def NS (w : World) (A B : Nat) (W : World) : Prop := ∃ (P0 b0 R0 P1 b1 R1 : Nat) (D0 D1 : DataW Unit) (ts0 ts1 : List Tm) (v0 v1 : Value),
  All [tabI P0 b0 (Maps.size D0) D0, refC R0 v0 ts0, tabI P1 b1 (Maps.size D1) D1, refC R1 v1 ts1, blkC A [.pointer (some ⟨P0, 0, none⟩), .pointer (some ⟨P1, 0, none⟩)] 46, blkC B [.pointer (some ⟨R0, 0, none⟩), .pointer (some ⟨R1, 0, none⟩)] 47, inC w] W ∧ Cp D0 ts0 ∧ Cp D1 ts1 ∧ ts0.length ≤ 32 ∧ ts1.length ≤ 32

theorem NS.into {w W : World} {A B : Nat} (h : NS w A B W) : Below w.heap.size w W := by
  obtain ⟨P0, b0, R0, P1, b1, R1, D0, D1, ts0, ts1, v0, v1, hA, _⟩ := h
  exact hA.into (by simp)
theorem NS.later {w W W' : World} {A B : Nat} (h : NS w A B W) (hb : Below W.heap.size W W') : NS w A B W' := by
  obtain ⟨P0, b0, R0, P1, b1, R1, D0, D1, ts0, ts1, v0, v1, hA, hr⟩ := h
  exact ⟨P0, b0, R0, P1, b1, R1, D0, D1, ts0, ts1, v0, v1, hA.later hb, hr⟩

/-- One of them. -/
theorem NS.pick {w W : World} {A B : Nat} (h : NS w A B W) {k : Nat} (hk : k < 2) : ∃ (P b R : Nat) (D : DataW Unit) (ts : List Tm) (v : Value) (qa qb : List Value) (rest : List Comp),
    All (tabI P b (Maps.size D) D :: refC R v ts :: blkC A qa 46 :: blkC B qb 47 :: rest) W ∧ Cp D ts ∧ ts.length ≤ 32 ∧ qa[k]? = some (.pointer (some ⟨P, 0, none⟩)) ∧ qb[k]? = some (.pointer (some ⟨R, 0, none⟩)) ∧
    ∀ (W' : World) (D' : DataW Unit) (ts' : List Tm) (v' : Value), All (tabI P b (Maps.size D') D' :: refC R v' ts' :: blkC A qa 46 :: blkC B qb 47 :: rest) W' → Cp D' ts' → ts'.length ≤ 32 → NS w A B W' := by
  obtain ⟨P0, b0, R0, P1, b1, R1, D0, D1, ts0, ts1, v0, v1, hA, c0, c1, l0, l1⟩ := h
  have p0 : ∀ (a b c d e f g : Comp), [a, b, c, d, e, f, g].Perm [a, b, e, f, c, d, g] := fun a b c d e f g => .cons _ (.cons _ (List.Perm.append_right [g] (List.perm_append_comm (l₁ := [c, d]) (l₂ := [e, f]))))
  have p1 : ∀ (a b c d e f g : Comp), [a, b, c, d, e, f, g].Perm [c, d, e, f, a, b, g] := fun a b c d e f g => List.Perm.append_right [g] (List.perm_append_comm (l₁ := [a, b]) (l₂ := [c, d, e, f]))
  obtain rfl | rfl : k = 0 ∨ k = 1 := by omega
  · exact ⟨P0, b0, R0, D0, ts0, v0, _, _, _, hA.perm (p0 _ _ _ _ _ _ _), c0, l0, rfl, rfl, fun W' D' ts' v' hA' c' l' => ⟨P0, b0, R0, P1, b1, R1, D', D1, ts', ts1, v', v1, hA'.perm (p0 _ _ _ _ _ _ _).symm, c', c1, l', l1⟩⟩
  · exact ⟨P1, b1, R1, D1, ts1, v1, _, _, _, hA.perm (p1 _ _ _ _ _ _ _), c1, l1, rfl, rfl, fun W' D' ts' v' hA' c' l' => ⟨P0, b0, R0, P1, b1, R1, D0, D', ts0, ts', v0, v', hA'.perm (p1 _ _ _ _ _ _ _).symm, c0, c', l0, l'⟩⟩
end Go.Proofs.Ytphcfkfdkaphbaa

import Derived.Test.YtphcfkfdkaphbaaLaid
import Derived.Test.YtphcfkfdkaphbaaPat
namespace Go.Proofs.Ytphcfkfdkaphbaa
open Go.ChangeShapes Go.WideShapes Go.ChangeAt Go.RowKit Go.Deep Go.Joins
set_option linter.unusedVariables false

theorem trod_struct5 {H : Type} {enc : TypeId × Value → H} {P : Program} {w : World} {base : Nat} {spare : Nat → Bool} {held : Bool} {t : TypeId} {f0 f1 f2 f3 f4 : Field} {fuel : Nat} {cs : List Value} {x : DataW H × List MemPlace} (ht : P.underlying t = some (.struct #[f0, f1, f2, f3, f4])) (h : DataW.trod enc P w base spare held fuel t cs = some x) :
    ∃ y0 y1 y2 y3 y4 n, x = (.agg [y0.1, y1.1, y2.1, y3.1, y4.1], y0.2 ++ (y1.2 ++ (y2.2 ++ (y3.2 ++ y4.2)))) ∧ cs.length = P.cellsOf t ∧ DataW.trod enc P w base spare held n f0.type ((cs.drop f0.offset).take (P.cellsOf f0.type)) = some y0 ∧
      DataW.trod enc P w base spare held n f1.type ((cs.drop f1.offset).take (P.cellsOf f1.type)) = some y1 ∧ DataW.trod enc P w base spare held n f2.type ((cs.drop f2.offset).take (P.cellsOf f2.type)) = some y2 ∧
      DataW.trod enc P w base spare held n f3.type ((cs.drop f3.offset).take (P.cellsOf f3.type)) = some y3 ∧ DataW.trod enc P w base spare held n f4.type ((cs.drop f4.offset).take (P.cellsOf f4.type)) = some y4 := by
  obtain ⟨xs, n, _, rfl, hl, hlen, hf⟩ := DataW.trod_struct ht h
  match xs, hlen with
  | [y0, y1, y2, y3, y4], _ => exact ⟨y0, y1, y2, y3, y4, n, by simp, hl, by simpa using hf 0 f0 rfl, by simpa using hf 1 f1 rfl, by simpa using hf 2 f2 rfl, by simpa using hf 3 f3 rfl, by simpa using hf 4 f4 rfl⟩

theorem Try.cells40 : Try.prog.cellsOf 40 = 5 := by kernel_rfl
theorem Try.cells3 : Try.prog.cellsOf 3 = 1 := by kernel_rfl
theorem Try.cells9 : Try.prog.cellsOf 9 = 1 := by kernel_rfl

def actD {H : Type} (x : Ac) : DataW H := .agg [.lit (.int .i64 x.kind), .lit (.int .i64 x.at_), .lit (.string x.name.data.toList), .lit (.int .i64 x.num), .lit (.int .i64 x.ticks)]

theorem i64_wf {n : Int} (h : (Lit.int .i64 n).wf = true) : -9223372036854775808 ≤ n ∧ n < 9223372036854775808 := by
  have : -9223372036854775808 ≤ n ∧ n ≤ 9223372036854775807 := by simpa [Lit.wf, IntKind.min, IntKind.max, IntKind.signed, IntKind.bits] using h
  omega

structure Ac.Ok (x : Ac) : Prop where
  kind : -9223372036854775808 ≤ x.kind ∧ x.kind < 9223372036854775808
  at_ : -9223372036854775808 ≤ x.at_ ∧ x.at_ < 9223372036854775808
  num : -9223372036854775808 ≤ x.num ∧ x.num < 9223372036854775808
  ticks : -9223372036854775808 ≤ x.ticks ∧ x.ticks < 9223372036854775808

def sizeA (xs : List Ac) : Nat := (xs.map fun x => x.name.size + 6).sum

theorem bulk_act {H : Type} (x : Ac) : Rows.uptoBulk (actD (H := H) x) = x.name.size + 6 := by
  simp only [actD, Rows.uptoBulk, Rows.uptoBulkAll]
  have : x.name.data.toList.length = x.name.size := rfl
  omega

theorem sizeA_bulk {H : Type} (f : Nat → Ac) (D : Nat → DataW H) (l : List Nat) (h : ∀ i ∈ l, D i = actD (f i)) : sizeA (l.map f) ≤ Rows.uptoBulkAll (l.map D) := by
  induction l with
  | nil => simp [sizeA]
  | cons i r ih =>
    have h1 := ih (fun j hj => h j (by simp [hj]))
    have h2 := h i (by simp)
    have h3 := bulk_act (H := H) (f i)
    simp only [sizeA, List.map_cons, List.sum_cons, Rows.uptoBulkAll, h2, h3] at h1 ⊢
    omega

set_option maxRecDepth 100000 in
/-- A script that came in. -/
theorem open_acts {H : Type} {enc : TypeId × Value → H} {W : World} {v : Value} {d : DataW H} {p : List MemPlace} (h : DataW.Trod enc Try.prog W 0 (fun _ => true) true 22 v d p) (hv : ∃ a l c, v = .slice a l c) :
    ∃ xs, ActsAt W v xs ∧ (∀ x ∈ xs, x.Ok) ∧ sizeA xs ≤ Rows.uptoBulk d := by
  obtain ⟨fuel, hf⟩ := h
  obtain ⟨a0, l0, c0, rfl⟩ := hv
  rcases open_slice Try.underlying22 hf with ⟨hcs, hx⟩ | ⟨a, len, cap, m, n, D, Pl, hcs, _, hl, hm, hmm, hx, hel⟩
  · simp [Value.cells] at hcs
    obtain ⟨rfl, rfl, rfl⟩ := hcs
    exact ⟨[], ⟨none, 0, rfl, by simp, Or.inl rfl⟩, by simp, by simp [sizeA]⟩
  · simp [Value.cells] at hcs
    obtain ⟨rfl, rfl, rfl⟩ := hcs
    have hlm : l0 ≤ m := by rw [hmm]; split <;> omega
    simp only [Prod.mk.injEq] at hx
    obtain ⟨rfl, _⟩ := hx
    have each : ∀ i, i < l0 → ∃ x : Ac, x.Ok ∧ D i = actD x ∧ ∀ j u, x.cells[j]? = some u → W.cell? (a.add (i * 5 + j)) = some u := by
      intro i hi
      obtain ⟨cs', h1, h2⟩ := hel i (by omega)
      rw [Try.cells40] at h1
      obtain ⟨_, hlen, hcell⟩ := World.cells?_some h1
      obtain ⟨y0, y1, y2, y3, y4, n', hxy, _, g0, g1, g2, g3, g4⟩ := trod_struct5 Try.underlying40 h2
      match cs', hlen with
      | [v0, v1, v2, v3, v4], _ =>
        simp only [Try.cells3, Try.cells9, List.drop_zero, List.drop_succ_cons, List.take_succ_cons, List.take_zero] at g0 g1 g2 g3 g4
        obtain ⟨k, e0, r0, w0⟩ := DataW.trod_int Try.underlying3 g0
        obtain ⟨nn, e1, r1, w1⟩ := DataW.trod_int Try.underlying3 g1
        obtain ⟨s, e2, r2, w2⟩ := DataW.trod_string Try.underlying9 g2
        obtain ⟨n3, e3, r3, w3⟩ := DataW.trod_int Try.underlying3 g3
        obtain ⟨n4, e4, r4, w4⟩ := DataW.trod_int Try.underlying3 g4
        simp only [List.cons.injEq, and_true] at e0 e1 e2 e3 e4
        subst e0 e1 e2 e3 e4 r0 r1 r2 r3 r4
        refine ⟨⟨k, nn, s, n3, n4⟩, ⟨i64_wf w0, i64_wf w1, i64_wf w3, i64_wf w4⟩, ?_, fun j u hu => ?_⟩
        · simp only [Prod.mk.injEq] at hxy
          rw [hxy.1]
          rfl
        · have hj : j < 5 := by
            have := (List.getElem?_eq_some_iff.1 hu).1
            simpa [Ac.cells] using this
          have q := hcell j (by omega)
          rw [add_add] at q
          rw [q, ← hu]
          have : j = 0 ∨ j = 1 ∨ j = 2 ∨ j = 3 ∨ j = 4 := by omega
          rcases this with rfl | rfl | rfl | rfl | rfl <;> rfl
    haveI : Inhabited Ac := ⟨⟨0, 0, ⟨#[]⟩, 0, 0⟩⟩
    obtain ⟨f, hf'⟩ := choose_lt each
    refine ⟨(List.range l0).map f, ⟨some a, c0, by simp, by simp; omega, ?_⟩, ?_, ?_⟩
    · by_cases h0 : l0 = 0
      · left; simp [h0]
      · right
        have h00 := (hf' 0 (by omega)).2.2 0 _ rfl
        have hsp : a.spot = none := by
          have := World.cell?_spot h00
          simpa [Addr.add] using this
        obtain ⟨b, off, sp⟩ := a
        simp only at hsp
        subst hsp
        refine ⟨b, off, rfl, ?_, ?_⟩
        · have := World.block_lt_of_cell? W _ h00
          simpa [Addr.add] using this
        · intro i x hx j u hu
          simp only [List.getElem?_map] at hx
          by_cases hi : i < l0
          · simp [hi] at hx
            subst hx
            have := (hf' i hi).2.2 j u hu
            simpa [Addr.add_lit, Nat.add_assoc] using this
          · simp [hi] at hx
    · intro x hx
      obtain ⟨i, hi, rfl⟩ := List.mem_map.1 hx
      exact (hf' i (List.mem_range.1 hi)).1
    · have := sizeA_bulk f D (List.range l0) (fun i hi => (hf' i (List.mem_range.1 hi)).2.1)
      simp only [Rows.uptoBulk]
      omega
end Go.Proofs.Ytphcfkfdkaphbaa

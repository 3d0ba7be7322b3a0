import Derived.Test.YtphcfkfdkaphbaaRefT
import Derived.Laws.StructEq
namespace Go.Proofs.Ytphcfkfdkaphbaa
open Go.RowKit
set_option linter.unusedVariables false

theorem below_drewN {n : Nat} {w w' : World} (h : Below n w w') (q : Nat) : Below n w (w'.drewN q) := ⟨h.os, h.tape, h.output, h.size, h.block⟩

theorem placeT_at {t : ByteArray} {k : Int} {ts : List Tm} {i : Nat} {x : Tm} (h : ts[i]? = some x) : placeT t k (ts.drop i) i = if x.t.toList = t.toList ∧ x.k = k then (i : Int) else placeT t k (ts.drop (i + 1)) (i + 1) := by
  obtain ⟨hi, e⟩ := List.getElem?_eq_some_iff.1 h
  rw [List.drop_eq_getElem_cons hi, e, placeT]

theorem row3_cells {w : World} {base : Nat} {ao : Option Addr} {n c : Nat} {ts : List Tm} (h : w.ownsRow base 101 3 (.slice ao n c) ts.length (flatT ts)) {i : Nat} {x : Tm} (hx : ts[i]? = some x) : ∃ g, ao = some ⟨g, 0, none⟩ ∧ g < w.heap.size ∧ w.cell? ⟨g, i * 3, none⟩ = some (.string x.t) ∧ w.cell? ⟨g, i * 3 + 1, none⟩ = some (.int .i64 x.k) ∧ w.cell? ⟨g, i * 3 + 2, none⟩ = some (.int .i64 x.l) := by
  have hi := (List.getElem?_eq_some_iff.1 hx).1
  rcases h.2 with ⟨e, e2⟩ | ⟨g, cap, cur, e, _, hg, hn, hm, hcs, ht⟩
  · omega
  · simp only [Value.slice.injEq] at e
    have key : ∀ j, j < 3 → w.cell? ⟨g, i * 3 + j, none⟩ = x.cells[j]? := fun j hj => by
      rw [cell_at hg, ← Array.getElem?_toList, ← flatT_at hx hj, ← ht, List.getElem?_take, if_pos (by omega)]
    exact ⟨g, e.1, (Array.getElem?_eq_some_iff.1 hg).1, key 0 (by omega), key 1 (by omega), key 2 (by omega)⟩

theorem Try.fields50 : Try.prog.underlying 50 = some (.struct (Try.prog.fieldsOf 50)) := by kernel_rfl
theorem Try.held50 : Try.prog.stoodInHeld 50 = false := by kernel_rfl
theorem Try.fieldsOf50 : Try.prog.fieldsOf 50 = #[{ name := "Text", type := 9, offset := 0, embedded := false, tag := "", pkgPath := "", byteOffset := 0 }, { name := "Num", type := 3, offset := 1, embedded := false, tag := "", pkgPath := "", byteOffset := 16 }] := by kernel_rfl

theorem eq50 (t u : ByteArray) (a b : Int) (w : World) : (Op.equalIn 10000 50 (.agg #[.string t, .int .i64 a]) (.agg #[.string u, .int .i64 b])).run Try.prog w = .ok (decide (t.toList = u.toList ∧ a = b)) w := by
  have h := run_equalIn_agg (P := Try.prog) w 9999 50 #[.string t, .int .i64 a] #[.string u, .int .i64 b] Try.fields50 Try.held50
  rw [Try.fieldsOf50] at h
  refine h.trans ?_
  have hs := fun d => run_equalIn_string (P := Try.prog) w d 9 t u Try.underlying9
  have hi := fun d => run_equalIn_int (P := Try.prog) w d 3 .i64 .i64 a b Try.underlying3
  simp only [Op.eqFields]
  go_simp
  by_cases h1 : t.toList = u.toList <;> by_cases h2 : a = b <;> simp [h1, h2]

set_option maxRecDepth 1000000 in
theorem place_any {P : Nat} {v : Value} {ts : List Tm} {w : World} (hP : w.heap[P]? = some (.cells #[v] 30 (0, 0))) (ho : w.ownsRow 0 101 3 v ts.length (flatT ts)) (hl : ts.length ≤ 1048576) (t : ByteArray) (k : Int) : Calls Try.prog 52 #[.pointer (some ⟨P, 0, none⟩), .agg #[.string t, .int .i64 k]] w fun e w' => e = .returned (.int .i64 (placeT t k ts 0)) ∧ Below w.heap.size w w' := by
  obtain ⟨ao, c, hv⟩ := owns_form ho
  subst hv
  have HB := (Below.refl w.heap.size w).alloc (Nat.le_refl _) (.cells #[.string t, .int .i64 k] 50)
  have hPl := (Array.getElem?_eq_some_iff.1 hP).1
  have cP : (w.alloc (.cells #[.string t, .int .i64 k] 50)).cell? ⟨P, 0, none⟩ = some (.slice ao ts.length c) := by
    rw [cell_at ((HB.block P hPl).trans hP)]; rfl
  have hN := heap_alloc_new w (.cells #[.string t, .int .i64 k] 50)
  have n0 : (w.alloc (.cells #[.string t, .int .i64 k] 50)).cell? ⟨w.heap.size, 0, none⟩ = some (.string t) := by rw [cell_at hN]; rfl
  have n1 : (w.alloc (.cells #[.string t, .int .i64 k] 50)).cell? ⟨w.heap.size, 1, none⟩ = some (.int .i64 k) := by rw [cell_at hN]; rfl
  have HO := hid ho
  have HB' := hid HB
  have CP := hid cP
  have N0 := hid n0
  have N1 := hid n1
  generalize hwa : w.alloc (.cells #[.string t, .int .i64 k] 50) = wa at *
  clear ho HB cP n0 n1 hN hP hPl
  go_enter Try.func52, Try.ntmps52
  have cP := CP.out
  go_wp2
  clear cP
  go_loopw [11] (fun iv wr => ∃ i : Nat, iv = .int .i64 (i : Int) ∧ i ≤ ts.length ∧ placeT t k (ts.drop i) i = placeT t k ts 0 ∧ ∃ q, wr = wa.drewN q) (fun iv _ => ts.length - (intOf iv).toNat)
  case atStart => exact ⟨0, rfl, by omega, rfl, 0, by first | rfl | exact hwa | (simp [hwa]; rfl)⟩
  case round =>
    obtain ⟨i, rfl, hi, hpl, q, rfl⟩ := hrel
    have HPL := hid hpl
    clear hpl
    have cP := CP.out
    have n0 := N0.out
    have n1 := N1.out
    by_cases hlt : i < ts.length
    · obtain ⟨x, hx⟩ : ∃ x, ts[i]? = some x := ⟨_, List.getElem?_eq_getElem hlt⟩
      obtain ⟨g, hao, hg, x0, x1, x2⟩ := row3_cells HO.out hx
      subst hao
      have y0 := cell_under HB'.out hg x0
      have y1 := cell_under HB'.out hg x1
      have he := eq50 x.t t x.k k
      have hpl := HPL.out
      rw [placeT_at hx] at hpl
      by_cases hc : x.t.toList = t.toList ∧ x.k = k
      · rw [if_pos hc] at hpl
        have HPL2 := hid hpl
        have hd : decide (x.t.toList = t.toList ∧ x.k = k) = true := decide_eq_true hc
        rw [hd] at he
        clear hd hc x0 x1 x2 hx hpl HPL
        go_wp2
        go_region
        go_wp2
        go_ret
        exact ⟨by rw [← HPL2.out]; rfl, below_drewN HB'.out _⟩
      · rw [if_neg hc] at hpl
        have HPL2 := hid hpl
        have hd : decide (x.t.toList = t.toList ∧ x.k = k) = false := decide_eq_false hc
        rw [hd] at he
        clear hd hc x0 x1 x2 hx hpl HPL
        go_wp2
        go_region
        go_wp2
        go_roundw
        case rel => exact ⟨i + 1, by go_num, by omega, HPL2.out, q + 1, rfl⟩
        case measure => simp [intOf]; omega
    · have hpl := HPL.out
      rw [List.drop_eq_nil_of_le (by omega), placeT] at hpl
      have HPL2 := hid hpl
      clear hpl HPL
      go_wp2
      go_ret
      exact ⟨by rw [← HPL2.out]; rfl, below_drewN HB'.out _⟩
end Go.Proofs.Ytphcfkfdkaphbaa

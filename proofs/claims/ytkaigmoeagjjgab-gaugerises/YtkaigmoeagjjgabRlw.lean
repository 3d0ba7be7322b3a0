import Derived.Test.YtkaigmoeagjjgabRis
namespace Go.Proofs.Ytkaigmoeagjjgab
open Go.RowKit
attribute [local go_sem] run_store_float
set_option linter.unusedVariables false

set_option maxHeartbeats 4000000 in
theorem rises_bad {w : World} {v : Value} {l : List Int} {p m : Nat} (h : IntsAt w v l) (hb : 4096 < l.length ∨ l.length = 0) : Calls Try.prog 3 #[v, .float .f64 p, .float .f64 m] w fun e w' => e = .returned (.bool true) ∧ Below w.heap.size w w' := by
  obtain ⟨ao, c, rfl⟩ := h.form
  obtain ⟨R, hR⟩ : ∃ R, Hid (R = ofE l.length) := ⟨_, rfl⟩
  have hne : (R != 0) = true := by
    rw [hR.out]; unfold ofE
    rcases hb with hb | hb
    · rw [if_pos hb]; rfl
    · rw [hb]; rfl
  have hrr : (R != R) = false := by simp
  have H := hid h
  have HB := hid hb
  clear h hb
  go_enter Try.func3, Try.ntmps3
  go_wp2_with fail
  refine shown_any.mono ?_
  rintro e w1 ⟨rfl, hb1⟩
  have h1 := H.out.later hb1
  have HB1 := hid hb1
  have cO := Of_bad h1 HB.out
  rw [← hR.out] at cO
  clear h1 hb1
  go_wp2_with fail
  refine cO.mono ?_
  rintro e w2 ⟨rfl, hb2⟩
  have hb3 := (HB1.out.trans (hb2.mono HB1.out.size)).trans ((ba w2 (.cells #[.int .i64 0, .int .i64 0, .int .i64 0, .float .f64 0, .float .f64 0] 26)).mono (Nat.le_trans HB1.out.size hb2.size))
  have cS := Share_bad (x := 4607182418800017408) (H.out.later hb3) HB.out
  rw [← hR.out] at cS
  have HB3 := hid hb3
  clear hb3 hb2 cO hR HB1
  go_wp2_with fail
  refine cS.mono ?_
  rintro e w3 ⟨rfl, rfl⟩
  go_wp2
  go_ret
  exact ⟨rfl, HB3.out⟩

set_option maxHeartbeats 4000000 in
theorem rises_ok {w : World} {v : Value} {l : List Int} {p m : Nat} (h : IntsAt w v l) (hs : Sm l) (h0 : 0 < l.length) (hn : l.length ≤ 4096) (hp : p < 18446744073709551616) (hm : m < 18446744073709551616) : Calls Try.prog 3 #[v, .float .f64 p, .float .f64 m] w fun e w' => e = .returned (.bool true) ∧ Below w.heap.size w w' := by
  obtain ⟨ao, c, rfl⟩ := h.form
  obtain ⟨hc, _⟩ := h.cap
  have H := hid h
  have HS := hid hs
  clear h hs
  go_enter Try.func3, Try.ntmps3
  go_wp2_with fail
  refine shown_any.mono ?_
  rintro e w1 ⟨rfl, hb1⟩
  have HB1 := hid hb1
  have cO := Of_ok (H.out.later hb1) HS.out h0 hn
  generalize hM : meanF l = M at cO
  generalize devF l M = D at cO
  obtain ⟨mn, hmn⟩ : ∃ x, Hid (x = minI l) := ⟨_, rfl⟩
  obtain ⟨mx, hmx⟩ : ∃ x, Hid (x = maxI l) := ⟨_, rfl⟩
  rw [← hmn.out, ← hmx.out] at cO
  clear hM hb1
  go_wp2_with fail
  refine cO.mono ?_
  rintro e w2 ⟨rfl, hb2⟩
  have eC := heap_alloc_new' w2 (.cells #[.int .i64 l.length, .int .i64 mn, .int .i64 mx, .float .f64 M, .float .f64 D] 26)
  have hb3 := (HB1.out.trans (hb2.mono HB1.out.size)).trans ((ba w2 (.cells #[.int .i64 l.length, .int .i64 mn, .int .i64 mx, .float .f64 M, .float .f64 D] 26)).mono (Nat.le_trans HB1.out.size hb2.size))
  have cS := Share_ok (x := W1) (H.out.later hb3) h0 hn (by decide) isP_one
  have EC := hid eC
  have HB3 := hid hb3
  clear hb3 hb2 cO HB1 eC
  go_wp2_with fail
  refine cS.mono ?_
  rintro e w3 ⟨r, rfl, hr, hb4⟩
  obtain rfl := (hr.whole hn).trans hmx.out.symm
  have eC3 := hid ((hb4.block w2.heap.size (by simp)).trans EC.out)
  have k1 : w3.cell? ⟨w2.heap.size, 1, none⟩ = some (.int .i64 mn) := by rw [cell_at eC3.out]; rfl
  have k2 : w3.cell? ⟨w2.heap.size, 2, none⟩ = some (.int .i64 r) := by rw [cell_at eC3.out]; rfl
  have HB4 := hid (HB3.out.trans (hb4.mono HB3.out.size))
  have HL := hid (show w2.heap.size < w3.heap.size by have := hb4.size; simp at this; omega)
  clear hb4 HB3 EC hr cS
  generalize w2.heap.size = BB at eC3 k1 k2 HL ⊢
  by_cases g1 : FloatKind.f64.format.order p 0 = some .gt
  · have q1 : (FloatKind.f64.format.order p 0 == some .gt) = true := by rw [g1]; rfl
    cases g2 : (FloatKind.f64.format.order p m == some .lt || FloatKind.f64.format.order p m == some .eq) with
    | false =>
      clear g1
      go_wp2
      go_ret
      exact ⟨rfl, HB4.out⟩
    | true =>
      cases g3 : (FloatKind.f64.format.order m 4607182418800017408 == some .lt || FloatKind.f64.format.order m 4607182418800017408 == some .eq) with
      | false =>
        clear g1
        go_wp2
        go_ret
        exact ⟨rfl, HB4.out⟩
      | true =>
        obtain ⟨a, b, ha, hb, ha0, hab, hb1⟩ := parts_is hp hm g1 (le_of g2) (le_of g3)
        have HR := hid (fun (x y : Int) => ShP.rise (x := x) (y := y) hn ha hb ha0 hab hb1)
        have c1 := hid (Share_ok (H.out.later HB4.out) h0 hn hp (isP_of ha ha0 (Int.le_trans hab hb1)))
        have ip2 := isP_of hb (Int.lt_of_lt_of_le ha0 hab) hb1
        clear g1 ha hb ha0 hab hb1
        go_wp2_with fail
        refine c1.out.mono ?_
        rintro e w4 ⟨x, rfl, hx, hb5⟩
        have k3 : w4.cell? ⟨BB, 1, none⟩ = some (.int .i64 mn) := (hb5.cell (p := ⟨BB, 1, none⟩) HL.out).trans k1
        have HB5 := hid (HB4.out.trans (hb5.mono HB4.out.size))
        have HL2 := hid (Nat.lt_of_lt_of_le HL.out hb5.size)
        have c2 := hid (Share_ok (H.out.later HB5.out) h0 hn hm ip2)
        have HX := hid hx
        clear hx hb5 k1 k2 c1 ip2
        go_wp2_with fail
        refine c2.out.mono ?_
        rintro e w5 ⟨y, rfl, hy, hb6⟩
        have k4 : w5.cell? ⟨BB, 1, none⟩ = some (.int .i64 mn) := (hb6.cell (p := ⟨BB, 1, none⟩) HL2.out).trans k3
        have HB6 := hid (HB5.out.trans (hb6.mono HB5.out.size))
        have hxy := HR.out x y HX.out hy
        have hxm : mn ≤ x := by rw [hmn.out]; exact (minI_spec h0).2 x HX.out.mem
        have dxy : decide (y < x) = false := decide_eq_false (by omega)
        have dxm : decide (x < mn) = false := decide_eq_false (by omega)
        have HM := hid HX.out.mem
        clear hxy hxm hy hb6 k3 c2 HR
        go_wp2
        go_loopw [13] (fun s wx => ∃ k : Nat, k ≤ l.length ∧ x ∉ l.take k ∧ s = .int .i64 (k : Int) ∧ wx = w5) (fun s _ => l.length - (intOf s).toNat)
        case atStart => exact ⟨0, Nat.zero_le _, by simp, rfl, rfl⟩
        case round =>
          obtain ⟨k, hk, hnx, rfl, rfl⟩ := hrel
          by_cases hlt : k < l.length
          · obtain ⟨z, hz⟩ : ∃ z, l[k]? = some z := ⟨_, List.getElem?_eq_getElem hlt⟩
            obtain ⟨g, off, rfl, hg, cx⟩ := H.out.at hz
            have cx2 := (HB6.out.cell (p := ⟨g, off + k, none⟩) hg).trans cx
            by_cases hzx : z = x
            · have dz : (z == x) = true := by simp [hzx]
              clear hzx hz cx hnx
              go_wp2
              go_ret
              exact ⟨rfl, HB6.out⟩
            · have dz : (z == x) = false := by simp [hzx]
              have hnx2 := hid (show x ∉ l.take (k + 1) by
                rw [take_snoc hz, List.mem_append, List.mem_singleton]
                rintro (h | h)
                · exact hnx h
                · exact hzx h.symm)
              clear hzx hz cx hnx
              go_wp2
              go_roundw
              case rel => exact ⟨k + 1, by omega, hnx2.out, rfl, trivial⟩
              case measure => simp [intOf]; omega
          · rw [List.take_of_length_le (by omega)] at hnx
            exact absurd HM.out hnx
  · have q1 : (FloatKind.f64.format.order p 0 == some .gt) = false := by simpa using g1
    clear g1
    go_wp2
    go_ret
    exact ⟨rfl, HB4.out⟩

theorem rises_law {w : World} {v : Value} {l : List Int} {p m : Nat} (h : IntsAt w v l) (hs : Sm l) (hp : p < 18446744073709551616) (hm : m < 18446744073709551616) : Calls Try.prog 3 #[v, .float .f64 p, .float .f64 m] w fun e w' => e = .returned (.bool true) ∧ Below w.heap.size w w' := by
  by_cases hb : 4096 < l.length ∨ l.length = 0
  · exact rises_bad h hb
  · exact rises_ok h hs (by omega) (by omega) hp hm
end Go.Proofs.Ytkaigmoeagjjgab

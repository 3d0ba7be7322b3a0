import Derived.Test.YtkaigmoeagjjgaaRfO
import Derived.Test.YtkaigmoeagjjgaaLen
namespace Go.Proofs.Ytkaigmoeagjjgaa
open Go.RowKit
attribute [local go_sem] run_store_float
set_option linter.unusedVariables false

set_option maxHeartbeats 1000000 in
theorem sameMeasure_any {w : World} {a b c : Int} {d e : Nat} (hd : Flt.NN d) (he : Flt.NN e) : Calls Try.prog 13 #[.agg #[.int .i64 a, .int .i64 b, .int .i64 c, .float .f64 d, .float .f64 e], .agg #[.int .i64 a, .int .i64 b, .int .i64 c, .float .f64 d, .float .f64 e]] w fun z w' => z = .returned (.bool true) ∧ Below w.heap.size w w' := by
  have o1 : (FloatKind.f64.format.order d d == some .eq) = true := by rw [show FloatKind.f64.format.order d d = some .eq from Flt.order_self hd]; rfl
  have o2 : (FloatKind.f64.format.order e e == some .eq) = true := by rw [show FloatKind.f64.format.order e e = some .eq from Flt.order_self he]; rfl
  have b0 : (a == a) = true := by simp
  have b1 : (b == b) = true := by simp
  have b2 : (c == c) = true := by simp
  clear hd he
  go_enter Try.func13, Try.ntmps13
  go_wp2
  go_ret
  exact ⟨rfl, (ba w _).trans ((ba _ _).mono (by simp))⟩

/-- every answer of the program and of the document -/
def ofMe (l : List Int) : Nat := if ofE l.length = 0 then meanF l else 0
def ofDe (l : List Int) : Nat := if ofE l.length = 0 then devF l (meanF l) else 0
abbrev ofV (l : List Int) : Value := .agg #[.int .i64 (ofA l), .int .i64 (ofB l), .int .i64 (ofC l), .float .f64 (ofMe l), .float .f64 (ofDe l)]
theorem dev_nn {l : List Int} (hs : Sm l) (h0 : 0 < l.length) (hn : l.length ≤ 4096) : Flt.NN (devF l (meanF l)) := by
  have hp := devS_pos l (meanF l) (mean_nn hs h0 hn) hs
  exact (sqr_some ((div_some hp.nn h0 hn).2.2 hp)).2
theorem ofE_ok {l : List Int} (hb : ¬ (4096 < l.length ∨ l.length = 0)) : ofE l.length = 0 := by unfold ofE; rw [if_neg (by omega), if_neg (by omega)]
theorem ofE_bad {l : List Int} (hb : 4096 < l.length ∨ l.length = 0) : ofE l.length ≠ 0 := by
  unfold ofE
  rcases hb with hb | hb
  · rw [if_pos hb]; decide
  · rw [hb]; decide
theorem of_nn {l : List Int} (hs : Sm l) : Flt.NN (ofMe l) ∧ Flt.NN (ofDe l) := by
  unfold ofMe ofDe
  by_cases hb : 4096 < l.length ∨ l.length = 0
  · rw [if_neg (ofE_bad hb), if_neg (ofE_bad hb)]; exact ⟨zero_nn, zero_nn⟩
  · rw [if_pos (ofE_ok hb), if_pos (ofE_ok hb)]; exact ⟨mean_nn hs (by omega) (by omega), dev_nn hs (by omega) (by omega)⟩
theorem Of_all {w : World} {v : Value} {l : List Int} (h : IntsAt w v l) (hs : Sm l) : Calls Try.prog 11 #[v] w fun e w' => e = .returned (.tuple #[ofV l, .int .i64 (ofE l.length)]) ∧ Below w.heap.size w w' := by
  by_cases hb : 4096 < l.length ∨ l.length = 0
  · have := Of_bad h hb
    unfold ofV ofA ofB ofC ofMe ofDe
    simp only [if_neg (ofE_bad hb)]
    exact this
  · have := Of_ok h hs (by omega) (by omega)
    unfold ofV ofA ofB ofC ofMe ofDe
    simp only [if_pos (ofE_ok hb)]
    rw [ofE_ok hb]
    exact this
theorem rOf_all {w : World} {v : Value} {l : List Int} (h : IntsAt w v l) (hs : Sm l) : Calls Try.prog 12 #[v] w fun e w' => e = .returned (.tuple #[ofV l, .int .i64 (ofE l.length)]) ∧ Below w.heap.size w w' := by
  by_cases hb : 4096 < l.length ∨ l.length = 0
  · have := rOf_bad h hb
    unfold ofV ofA ofB ofC ofMe ofDe
    simp only [if_neg (ofE_bad hb)]
    exact this
  · have := rOf_ok h hs (by omega) (by omega)
    unfold ofV ofA ofB ofC ofMe ofDe
    simp only [if_pos (ofE_ok hb)]
    rw [ofE_ok hb]
    exact this

theorem five {W : World} {M : Nat} {a b c : Int} {d e : Nat} (h : W.heap[M]? = some (.cells #[.int .i64 a, .int .i64 b, .int .i64 c, .float .f64 d, .float .f64 e] 27 (0, 0))) : W.cell? ⟨M, 0, none⟩ = some (.int .i64 a) ∧ W.cell? ⟨M, 1, none⟩ = some (.int .i64 b) ∧ W.cell? ⟨M, 2, none⟩ = some (.int .i64 c) ∧ W.cell? ⟨M, 3, none⟩ = some (.float .f64 d) ∧ W.cell? ⟨M, 4, none⟩ = some (.float .f64 e) :=
  ⟨by rw [cell_at h]; rfl, by rw [cell_at h]; rfl, by rw [cell_at h]; rfl, by rw [cell_at h]; rfl, by rw [cell_at h]; rfl⟩
set_option maxHeartbeats 4000000 in
theorem of_law {w : World} {v u : Value} {l o : List Int} (h : IntsAt w v l) (h2 : IntsAt w u o) (hs : Sm l) (hs2 : Sm o) (hz : l.length * 8 ≤ 140737488351232) : Calls Try.prog 3 #[v, u] w fun e w' => e = .returned (.bool true) ∧ Below w.heap.size w w' := by
  obtain ⟨ao, c, rfl⟩ := h.form
  obtain ⟨bo, d, rfl⟩ := h2.form
  have CO : Hid (∀ (W : World) (x : Value), IntsAt W x l → Calls Try.prog 11 #[x] W fun e w' => e = .returned (.tuple #[.agg #[.int .i64 (ofA l), .int .i64 (ofB l), .int .i64 (ofC l), .float .f64 (ofMe l), .float .f64 (ofDe l)], .int .i64 (ofE l.length)]) ∧ Below W.heap.size W w') := hid (fun W x hx => Of_all hx hs)
  have CR : Hid (∀ (W : World) (x : Value), IntsAt W x l → Calls Try.prog 12 #[x] W fun e w' => e = .returned (.tuple #[.agg #[.int .i64 (ofA l), .int .i64 (ofB l), .int .i64 (ofC l), .float .f64 (ofMe l), .float .f64 (ofDe l)], .int .i64 (ofE l.length)]) ∧ Below W.heap.size W w') := hid (fun W x hx => rOf_all hx hs)
  have CO2 : Hid (∀ (W : World) (x : Value), IntsAt W x o → Calls Try.prog 11 #[x] W fun e w' => e = .returned (.tuple #[.agg #[.int .i64 (ofA o), .int .i64 (ofB o), .int .i64 (ofC o), .float .f64 (ofMe o), .float .f64 (ofDe o)], .int .i64 (ofE o.length)]) ∧ Below W.heap.size W w') := hid (fun W x hx => Of_all hx hs2)
  have CR2 : Hid (∀ (W : World) (x : Value), IntsAt W x o → Calls Try.prog 12 #[x] W fun e w' => e = .returned (.tuple #[.agg #[.int .i64 (ofA o), .int .i64 (ofB o), .int .i64 (ofC o), .float .f64 (ofMe o), .float .f64 (ofDe o)], .int .i64 (ofE o.length)]) ∧ Below W.heap.size W w') := hid (fun W x hx => rOf_all hx hs2)
  obtain ⟨n1, n2⟩ := of_nn hs
  generalize ofA l = a0 at CO CR
  generalize ofB l = a1 at CO CR
  generalize ofC l = a2 at CO CR
  generalize ofMe l = a3 at CO CR n1
  generalize ofDe l = a4 at CO CR n2
  generalize ofE l.length = E at CO CR
  generalize ofA o = b0 at CO2 CR2
  generalize ofB o = b1 at CO2 CR2
  generalize ofC o = b2 at CO2 CR2
  generalize ofMe o = b3 at CO2 CR2
  generalize ofDe o = b4 at CO2 CR2
  generalize ofE o.length = F at CO2 CR2
  have SM := hid (fun (W : World) => sameMeasure_any (w := W) (a := a0) (b := a1) (c := a2) n1 n2)
  have ee : (E == E) = true := by simp
  have ff : (F == F) = true := by simp
  have H := hid h
  have H2 := hid h2
  clear h h2 hs hs2 n1 n2
  go_enter Try.func3, Try.ntmps3
  go_wp2_with fail
  refine shown_any.mono ?_
  rintro e w1 ⟨rfl, hb1⟩
  have HB1 := hid hb1
  have cl := hid (lent_any (H.out.later hb1) hz)
  clear hb1
  go_wp2_with fail
  refine cl.out.mono ?_
  rintro e w2 ⟨x, rfl, hA⟩
  have hi := ints_of_all hA
  obtain ⟨oo, oc, rfl⟩ := hi.form
  have hll : (lentL l).length = l.length + 8 := by simp [lentL]
  have hcap := hi.cap.1
  have HB2 := hid (HB1.out.trans ((inC_of (w := w1) hA (by simp)).mono HB1.out.size))
  have HI := hid hi
  have HF := hid (lent_front hi)
  rw [hll] at hcap HI ⊢
  have hc1 : l.length ≤ oc := by omega
  have hc2 : l.length ≤ l.length + 8 := by omega
  have c1 := hid (CO.out _ _ HF.out)
  clear hi hA cl HB1 hll
  go_wp2_with fail
  refine c1.out.mono ?_
  rintro e w3 ⟨rfl, hb3⟩
  have hb3a := hb3.trans ((ba w3 (.cells #[.int .i64 a0, .int .i64 a1, .int .i64 a2, .float .f64 a3, .float .f64 a4] 27)).mono hb3.size)
  have HB3 := hid (HB2.out.trans (hb3a.mono HB2.out.size))
  have HI3 := hid (HI.out.later hb3a)
  have HF3 := hid (HF.out.later hb3a)
  have K3 := hid (heap_alloc_new' w3 (.cells #[.int .i64 a0, .int .i64 a1, .int .i64 a2, .float .f64 a3, .float .f64 a4] 27))
  have c2 := hid (CO2.out _ _ (H2.out.later HB3.out))
  clear c1 hb3 hb3a HB2 HI HF
  go_wp2_with fail
  refine c2.out.mono ?_
  rintro e w4 ⟨rfl, hb4⟩
  have hb4a := hb4.trans ((ba w4 (.cells #[.int .i64 b0, .int .i64 b1, .int .i64 b2, .float .f64 b3, .float .f64 b4] 27)).mono hb4.size)
  have HB4 := hid (HB3.out.trans (hb4a.mono HB3.out.size))
  have HI4 := hid (HI3.out.later hb4a)
  have HF4 := hid (HF3.out.later hb4a)
  have K4 := hid ((hb4a.block w3.heap.size (by simp)).trans K3.out)
  have L4 := hid (show w3.heap.size < w4.heap.size by have := hb4.size; simp at this; omega)
  have c3 := hid (CO.out _ _ HF4.out)
  clear c2 hb4 hb4a HB3 HI3 HF3 K3
  generalize w3.heap.size = M1 at K4 L4 ⊢
  go_wp2_with fail
  refine c3.out.mono ?_
  rintro e w5 ⟨rfl, hb5⟩
  have hb5a := hb5.trans ((ba w5 (.cells #[.int .i64 a0, .int .i64 a1, .int .i64 a2, .float .f64 a3, .float .f64 a4] 27)).mono hb5.size)
  have HB5 := hid (HB4.out.trans (hb5a.mono HB4.out.size))
  have HI5 := hid (HI4.out.later hb5a)
  have K5 := hid ((hb5a.block M1 (by have := L4.out; simp; omega)).trans K4.out)
  have L5 := hid (show M1 < w5.heap.size by have := hb5.size; have := L4.out; simp at *; omega)
  have J5 := hid (heap_alloc_new' w5 (.cells #[.int .i64 a0, .int .i64 a1, .int .i64 a2, .float .f64 a3, .float .f64 a4] 27))
  have c4 := hid (CR.out _ _ (H.out.later HB5.out))
  clear c3 hb5 hb5a HB4 HI4 HF4 K4 L4
  go_wp2_with fail
  refine c4.out.mono ?_
  rintro e w6 ⟨rfl, hb6⟩
  have hb6a := hb6.trans ((ba w6 (.cells #[.int .i64 a0, .int .i64 a1, .int .i64 a2, .float .f64 a3, .float .f64 a4] 27)).mono hb6.size)
  have HB6 := hid (HB5.out.trans (hb6a.mono HB5.out.size))
  have HI6 := hid (HI5.out.later hb6a)
  have K6 := hid ((hb6a.block M1 (by have := L5.out; simp; omega)).trans K5.out)
  have J6 := hid ((hb6a.block w5.heap.size (by simp)).trans J5.out)
  have G6 := hid (heap_alloc_new' w6 (.cells #[.int .i64 a0, .int .i64 a1, .int .i64 a2, .float .f64 a3, .float .f64 a4] 27))
  have L6 := hid (show M1 < w6.heap.size ∧ w5.heap.size < w6.heap.size by have := hb6.size; have := L5.out; simp at *; omega)
  have c5 := hid (CR2.out _ _ (H2.out.later HB6.out))
  clear c4 hb6 hb6a HB5 HI5 K5 L5 J5
  generalize w5.heap.size = M2 at J6 L6 ⊢
  go_wp2_with fail
  refine c5.out.mono ?_
  rintro e w7 ⟨rfl, hb7⟩
  have hb7a := hb7.trans ((ba w7 (.cells #[.int .i64 b0, .int .i64 b1, .int .i64 b2, .float .f64 b3, .float .f64 b4] 27)).mono hb7.size)
  have HB7 := hid (HB6.out.trans (hb7a.mono HB6.out.size))
  have HI7 := hid (HI6.out.later hb7a)
  have K7 := hid ((hb7a.block M1 (by have := L6.out; simp; omega)).trans K6.out)
  have J7 := hid ((hb7a.block M2 (by have := L6.out; simp; omega)).trans J6.out)
  have G7 := hid ((hb7a.block w6.heap.size (by simp)).trans G6.out)
  clear c5 hb7 hb7a HB6 HI6 K6 J6 G6 L6
  generalize w6.heap.size = M3 at G7 ⊢
  go_upto_region 9 with fail
  generalize w7.alloc (.cells #[.int .i64 b0, .int .i64 b1, .int .i64 b2, .float .f64 b3, .float .f64 b4] 27) = w8 at HB7 HI7 K7 J7 G7 ⊢
  obtain ⟨x0, x1, x2, x3, x4⟩ := five K7.out
  obtain ⟨y0, y1, y2, y3, y4⟩ := five G7.out
  go_wp2_with fail
  refine (SM.out _).mono ?_
  rintro e w9 ⟨rfl, hb9⟩
  have ltM : ∀ {M : Nat} {z : Obj}, w8.heap[M]? = some z → M < w8.heap.size := fun h => (Array.getElem?_eq_some_iff.1 h).1
  have J9 := (hb9.block M2 (ltM J7.out)).trans J7.out
  have G9 := (hb9.block M3 (ltM G7.out)).trans G7.out
  have HB9 := hid (HB7.out.trans (hb9.mono HB7.out.size))
  have HI9 := hid (HI7.out.later hb9)
  clear x0 x1 x2 x3 x4 y0 y1 y2 y3 y4 hb9 ltM
  obtain ⟨x0, x1, x2, x3, x4⟩ := five J9
  obtain ⟨y0, y1, y2, y3, y4⟩ := five G9
  have J9 := hid J9
  have G9 := hid G9
  clear K7 J7 G7
  go_wp2_with fail
  refine (SM.out _).mono ?_
  rintro e w10 ⟨rfl, hb10⟩
  have HB10 := hid (HB9.out.trans (hb10.mono HB9.out.size))
  have cS := hid (still_any (HI9.out.later hb10) (H.out.later HB10.out) hz)
  clear x0 x1 x2 x3 x4 y0 y1 y2 y3 y4 hb10 J9 G9
  go_wp2_with fail
  refine cS.out.mono ?_
  rintro e w11 ⟨rfl, q, rfl⟩
  go_wp2
  go_ret
  exact ⟨rfl, HB10.out.trans (bdN' _ _ _)⟩
end Go.Proofs.Ytkaigmoeagjjgaa

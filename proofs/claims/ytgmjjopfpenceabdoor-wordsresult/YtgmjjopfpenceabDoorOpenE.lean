import Derived.Test.YtgmjjopfpenceabDoorE8
import Derived.Test.YtgmjjopfpenceabDoorLaid
import Derived.Deep.Strs
namespace Go.Proofs.YtgmjjopfpenceabDoor
open Go.ChangeShapes Go.WideShapes Go.ChangeAt Go.RowKit Go.Deep Go.Joins
set_option linter.unusedVariables false

theorem Tryd.cells3 : Tryd.prog.cellsOf 3 = 1 := by kernel_rfl
theorem Tryd.cells22 : Tryd.prog.cellsOf 22 = 1 := by kernel_rfl
theorem Tryd.cells24 : Tryd.prog.cellsOf 24 = 3 := by kernel_rfl
theorem Tryd.bytes9 : Tryd.prog.bytesOf 9 = 16 := by kernel_rfl
theorem map_at {α β : Type} {f : α → β} {xs : List α} {ys : List β} (h : xs.map f = ys) {i : Nat} {d : β} (hd : ys[i]? = some d) : ∃ y, xs[i]? = some y ∧ f y = d := by
  rw [← h, List.getElem?_map, Option.map_eq_some_iff] at hd
  exact hd
theorem Tryd.gCd : Tryd.prog.globalNamed "flotilla/words.codes" = some 0 := by kernel_rfl
theorem Tryd.gCdType : (Tryd.prog.globals[0]?).map (·.type) = some 36 := by kernel_rfl
theorem Tryd.cells36 : Tryd.prog.cellsOf 36 = 5 := by kernel_rfl
theorem Tryd.und36 : Tryd.prog.underlying 36 = some (.array 5 9) := by kernel_rfl
theorem i64_wf {n : Int} (h : (Lit.int .i64 n).wf = true) : -9223372036854775808 ≤ n ∧ n < 9223372036854775808 := by
  have : -9223372036854775808 ≤ n ∧ n ≤ 9223372036854775807 := by simpa [Lit.wf, IntKind.min, IntKind.max, IntKind.signed, IntKind.bits] using h
  omega
theorem list3 {l : List Value} {a b c : Value} (hl : l.length = 3) (h0 : (l.drop 0).take 1 = [a]) (h1 : (l.drop 1).take 1 = [b]) (h2 : (l.drop 2).take 1 = [c]) : l = [a, b, c] := by
  match l, hl with
  | [x0, x1, x2], _ => simp at h0 h1 h2; simp [h0, h1, h2]
theorem nth {α : Type} {l : List α} {n i : Nat} (hl : l.length = n) (hi : i < n) : ∃ y, l[i]? = some y := ⟨_, List.getElem?_eq_getElem (by omega)⟩

section
variable {H : Type} {enc : TypeId × Value → H} {W : World} {base : Nat} {sp : Nat → Bool} {held : Bool} {fuel : Nat} {cs : List Value} {x : DataW H × List MemPlace}
theorem str_cells {n : Nat} {l : List UInt8} (h : DataW.trod enc Tryd.prog W base sp held n 9 cs = some x) (hx : x.1 = .lit (.string l)) : cs = [.string ⟨l.toArray⟩] := by
  obtain ⟨z, e, r, _⟩ := DataW.trod_string Tryd.underlying9 h
  subst r
  simp only [DataW.lit.injEq, Lit.string.injEq] at hx
  subst hx
  simpa using e
theorem weights_all (Sx : Nat → ByteArray) (l : List Nat) {i : Nat} (hi : i ∈ l) : (Sx i).data.toList.length ∈ DataW.weightsAll Tryd.prog 9 (l.map fun i => (.lit (.string (Sx i).data.toList) : DataW H)) := by
  induction l with
  | nil => simp at hi
  | cons a r ih =>
    simp only [List.map_cons, DataW.weightsAll, DataW.weights, List.mem_append, List.mem_singleton]
    rcases List.mem_cons.1 hi with rfl | h
    · exact Or.inl rfl
    · exact Or.inr (ih h)
/-- Texts that came in, with how much they hold. -/
theorem texts_sized (h : DataW.trod enc Tryd.prog W base sp held fuel 22 cs = some x) (hw : ∀ n ∈ x.1.weights Tryd.prog 22, n ≤ reachBytes) : ∃ s l, cs = [s] ∧ Rt W s l ∧ l.length * 16 ≤ reachBytes ∧ ∀ y ∈ l, y.length ≤ reachBytes := by
  rcases open_strs Tryd.underlying22 Tryd.underlying9 Tryd.cells9 h with ⟨rfl, rfl⟩ | ⟨a, len, cap, m, Sx, rfl, _, hl, hm, hmm, rfl, hc⟩
  · exact ⟨_, [], rfl, ⟨none, 0, rfl, by simp, Or.inl rfl⟩, by simp, by simp⟩
  · have hlm : len ≤ m := by rw [hmm]; split <;> omega
    simp only [DataW.weights, Tryd.underlying22, Tryd.bytes9, List.length_map, List.length_range] at hw
    refine ⟨_, (List.range len).map fun i => (Sx i).data.toList, rfl, ⟨some a, cap, by simp, by simpa using hl, ?_⟩, ?_, fun y hy => ?_⟩
    · by_cases h0 : len = 0
      · left; subst h0; rfl
      · right
        have hc0 := (hc 0 (by omega)).1
        have hsp : a.spot = none := by
          have := World.cell?_spot hc0
          simpa [Addr.add] using this
        obtain ⟨b, off, sp'⟩ := a
        simp only at hsp
        subst hsp
        refine ⟨b, off, rfl, ?_, fun j hj => ?_⟩
        · have := World.block_lt_of_cell? W _ hc0
          simpa [Addr.add] using this
        · have hj' : j < len := by simpa using hj
          have h1 := (hc j (by omega)).1
          rw [Addr.add_lit] at h1
          rw [h1]
          simp
    · have := hw _ (List.mem_cons_self ..)
      rw [List.length_map, List.length_range]
      omega
    · obtain ⟨i, hi, rfl⟩ := List.mem_map.1 hy
      exact hw _ (List.mem_cons_of_mem _ (List.mem_append_left _ (weights_all Sx _ hi)))
theorem open_ws {v : Value} {d : DataW H} {p : List MemPlace} (h : DataW.Trod enc Tryd.prog W 0 (fun _ => true) true 22 v d p) (hv : ∃ a l c, v = .slice a l c) (hw : ∀ n ∈ d.weights Tryd.prog 22, n ≤ reachBytes) : ∃ ws, Rt W v ws ∧ ws.length * 16 ≤ reachBytes ∧ ∀ y ∈ ws, y.length ≤ reachBytes := by
  obtain ⟨fuel, hf⟩ := h
  obtain ⟨a0, l0, c0, rfl⟩ := hv
  obtain ⟨s, l, e, hr, hz⟩ := texts_sized hf hw
  simp [Value.cells] at e
  subst e
  exact ⟨l, hr, hz⟩
set_option maxRecDepth 100000 in
/-- A result's cells. -/
theorem res_cells (h : DataW.trod enc Tryd.prog W base sp held fuel 24 cs = some x) (hw : ∀ n ∈ x.1.weights Tryd.prog 24, n ≤ reachBytes) : ∃ c n s l, cs = [.int .i64 c, .int .i64 n, s] ∧ Rt W s l ∧ l.length * 16 ≤ reachBytes ∧ ∀ y ∈ l, y.length ≤ reachBytes := by
  obtain ⟨xs, f, _, rfl, hl, hlen, hf⟩ := DataW.trod_struct Tryd.underlying24 h
  have hlen : xs.length = 3 := hlen
  obtain ⟨y0, hy0⟩ := nth hlen (i := 0) (by omega)
  obtain ⟨y1, hy1⟩ := nth hlen (i := 1) (by omega)
  obtain ⟨y2, hy2⟩ := nth hlen (i := 2) (by omega)
  have g0 : DataW.trod enc Tryd.prog W base sp held f 3 ((cs.drop 0).take (Tryd.prog.cellsOf 3)) = some y0 := (hf 0 _ rfl).trans hy0
  have g1 : DataW.trod enc Tryd.prog W base sp held f 3 ((cs.drop 1).take (Tryd.prog.cellsOf 3)) = some y1 := (hf 1 _ rfl).trans hy1
  have g2 : DataW.trod enc Tryd.prog W base sp held f 22 ((cs.drop 2).take (Tryd.prog.cellsOf 22)) = some y2 := (hf 2 _ rfl).trans hy2
  rw [Tryd.cells3] at g0 g1
  rw [Tryd.cells22] at g2
  rw [Tryd.cells24] at hl
  obtain ⟨c, e0, r0, w0⟩ := DataW.trod_int Tryd.underlying3 g0
  obtain ⟨n, e1, r1, w1⟩ := DataW.trod_int Tryd.underlying3 g1
  have hw2 : ∀ n ∈ y2.1.weights Tryd.prog 22, n ≤ reachBytes := fun n hn => hw n (by
    have hxs : xs = [y0, y1, y2] := by
      apply List.ext_getElem?
      intro i
      obtain rfl | rfl | rfl | hi : i = 0 ∨ i = 1 ∨ i = 2 ∨ 3 ≤ i := by omega
      · exact hy0
      · exact hy1
      · exact hy2
      · rw [List.getElem?_eq_none (by omega), List.getElem?_eq_none (by simpa using hi)]
    subst hxs
    simp only [DataW.weights, Tryd.underlying24]
    exact DataW.weights_mem_each (j := 2) (t := 22) rfl rfl n hn)
  obtain ⟨s, l, e2, ht, hl2⟩ := texts_sized g2 hw2
  exact ⟨c, n, s, l, list3 hl e0 e1 e2, ht, hl2⟩
/-- A result that came in. -/
theorem open_res {v : Value} {d : DataW H} {p : List MemPlace} (h : DataW.Trod enc Tryd.prog W 0 (fun _ => true) true 24 v d p) (hv : ∃ cs, v = .agg cs ∧ cs.size = Tryd.prog.cellsOf 24) (hw : ∀ n ∈ d.weights Tryd.prog 24, n ≤ reachBytes) : ∃ c n s l, v = resV c n s ∧ Rt W s l ∧ l.length * 16 ≤ reachBytes ∧ ∀ y ∈ l, y.length ≤ reachBytes := by
  obtain ⟨fuel, hf⟩ := h
  obtain ⟨cs, rfl, _⟩ := hv
  obtain ⟨c, n, s, l, e, r⟩ := res_cells hf hw
  refine ⟨c, n, s, l, ?_, r⟩
  obtain ⟨q⟩ := cs
  have e : q = _ := e
  rw [e]
end
theorem cd_of_laid {a b c d e : String × DataW Unit} {W : World} (h : laidMet Tryd.prog [a, b, c, d, e, ("flotilla/words.codes", Rows.laid_flotilla_words_codes)] W) : Cd W := by
  obtain ⟨ps, ⟨g', t', cs, fuel, p, q, hg', ht', hvar, hd, _, _⟩, _⟩ := h.tail.tail.tail.tail.tail
  obtain rfl := Option.some.inj (Tryd.gCd.symm.trans hg')
  obtain rfl := Option.some.inj (Tryd.gCdType.symm.trans ht')
  obtain ⟨xs, m, _, hx, hl, hlen, hf⟩ := DataW.trod_array Tryd.und36 hd
  rw [Tryd.cells36] at hl
  rw [Tryd.cells9] at hf
  have hxs : xs.map (·.1) = cdN.map fun l => (.lit (.string l) : DataW Unit) := by
    have := congrArg Prod.fst hx
    have e : (.agg (xs.map (·.1)) : DataW Unit) = Rows.laid_flotilla_words_codes := this.symm
    injection e
  have hcell : ∀ i, i < 5 → W.cell? ⟨0, i, none⟩ = some (.string ⟨(cdN.getD i []).toArray⟩) := by
    intro i hi
    have hd : (cdN.map fun l => (.lit (.string l) : DataW Unit))[i]? = some (.lit (.string (cdN.getD i []))) := by
      have hlen : cdN.length = 5 := rfl
      rw [List.getElem?_map, List.getD_eq_getElem?_getD, List.getElem?_eq_getElem (by omega)]
      rfl
    obtain ⟨y, hy, e⟩ := map_at hxs hd
    have c := str_cells ((hf i hi).trans hy) e
    have hc : cs.toList[i]? = some (.string ⟨(cdN.getD i []).toArray⟩) := by
      have := congrArg (fun l => l[0]?) c
      simp only [List.getElem?_take, List.getElem?_drop] at this
      rw [if_pos (by omega)] at this
      simpa using this
    rw [World.var?_cell Tryd.gCd hvar i]
    simpa using hc
  exact ⟨World.block_lt_of_cell? W _ (hcell 0 (by omega)), hcell⟩
end Go.Proofs.YtgmjjopfpenceabDoor

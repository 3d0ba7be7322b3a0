import Derived.Test.YtdhkdniddjnigaaGreatDoorLe
import Derived.Test.YtdhkdniddjnigaaGreatDoorGr
import Derived.Test.YtdhkdniddjnigaaGreatDoorMail2
namespace Go.Proofs.YtdhkdniddjnigaaGreatDoor
open Go.ChangeShapes Go.WideShapes Go.ChangeAt Go.RowKit Go.Deep Go.Joins
set_option linter.unusedVariables false

theorem Tryz.gCd : Tryz.prog.globalNamed "flotilla/words.codes" = some 1 := by kernel_rfl
theorem Tryz.gCdType : (Tryz.prog.globals[1]?).map (·.type) = some 167 := by kernel_rfl
theorem Tryz.cells167 : Tryz.prog.cellsOf 167 = 5 := by kernel_rfl
theorem Tryz.und167 : Tryz.prog.underlying 167 = some (.array 5 9) := by kernel_rfl
set_option maxRecDepth 100000 in
theorem cd_of_laid {a b c d e f g k : String × DataW Unit} {r : List (String × DataW Unit)} {W : World} (h : laidMet Tryz.prog (a :: b :: c :: d :: e :: f :: g :: k :: ("flotilla/words.codes", Rows.laid_flotilla_words_codes) :: r) W) : Cd W := by
  obtain ⟨ps, ⟨g', t', cs, fuel, p, q, hg', ht', hvar, hd, _, _⟩, _⟩ := h.tail.tail.tail.tail.tail.tail.tail.tail
  obtain rfl := Option.some.inj (Tryz.gCd.symm.trans hg')
  obtain rfl := Option.some.inj (Tryz.gCdType.symm.trans ht')
  obtain ⟨xs, m, _, hx, hl, hlen, hf⟩ := DataW.trod_array Tryz.und167 hd
  rw [Tryz.cells167] at hl
  rw [Tryz.cells9] at hf
  have hxs : xs.map (·.1) = cdN.map fun l => (.lit (.string l) : DataW Unit) := by
    have := congrArg Prod.fst hx
    have e : (.agg (xs.map (·.1)) : DataW Unit) = Rows.laid_flotilla_words_codes := this.symm
    injection e
  have hcell : ∀ i, i < 5 → W.cell? ⟨1, i, none⟩ = some (.string ⟨(cdN.getD i []).toArray⟩) := by
    intro i hi
    have hd : (cdN.map fun l => (.lit (.string l) : DataW Unit))[i]? = some (.lit (.string (cdN.getD i []))) := by
      have hlen : cdN.length = 5 := rfl
      rw [List.getElem?_map, List.getD_eq_getElem?_getD, List.getElem?_eq_getElem (by omega)]
      rfl
    obtain ⟨y, hy, e⟩ := map_at hxs hd
    have c := str_cells ((hf i hi).trans hy) e
    have hc : cs.toList[i]? = some (.string ⟨(cdN.getD i []).toArray⟩) := by
      have := congrArg (fun l => l[0]?) c
      simp only [List.getElem?_take, List.getElem?_drop] at this
      rw [if_pos (by omega)] at this
      simpa using this
    rw [World.var?_cell Tryz.gCd hvar i]
    simpa using hc
  exact ⟨World.block_lt_of_cell? W _ (hcell 0 (by omega)), hcell⟩
theorem Tryz.gFld : Tryz.prog.globalNamed "flotilla/mail.fields" = some 2 := by kernel_rfl
theorem Tryz.gFldType : (Tryz.prog.globals[2]?).map (·.type) = some 182 := by kernel_rfl
theorem Tryz.cells182 : Tryz.prog.cellsOf 182 = 16 := by kernel_rfl
theorem Tryz.und182 : Tryz.prog.underlying 182 = some (.array 16 9) := by kernel_rfl
set_option maxRecDepth 100000 in
/-- The fields. -/
theorem fld_of_laid {a b c d e f : String × DataW Unit} {r : List (String × DataW Unit)} {W : World} (h : laidMet Tryz.prog (a :: b :: c :: d :: e :: f :: ("flotilla/mail.fields", Rows.laid_flotilla_mail_fields) :: r) W) : Fld W := by
  obtain ⟨ps, ⟨g', t', cs, fuel, p, q, hg', ht', hvar, hd, _, _⟩, _⟩ := h.tail.tail.tail.tail.tail.tail
  obtain rfl := Option.some.inj (Tryz.gFld.symm.trans hg')
  obtain rfl := Option.some.inj (Tryz.gFldType.symm.trans ht')
  obtain ⟨xs, m, _, hx, hl, hlen, hf⟩ := DataW.trod_array Tryz.und182 hd
  rw [Tryz.cells182] at hl
  rw [Tryz.cells9] at hf
  have hxs : xs.map (·.1) = fldN.map fun l => (.lit (.string l) : DataW Unit) := by
    have := congrArg Prod.fst hx
    have e : (.agg (xs.map (·.1)) : DataW Unit) = Rows.laid_flotilla_mail_fields := this.symm
    injection e
  have hcell : ∀ i, i < 16 → W.cell? ⟨2, i, none⟩ = some (.string (fldS i)) := by
    intro i hi
    have hd : (fldN.map fun l => (.lit (.string l) : DataW Unit))[i]? = some (.lit (.string (fldN.getD i []))) := by
      have hlen : fldN.length = 16 := rfl
      rw [List.getElem?_map, List.getD_eq_getElem?_getD, List.getElem?_eq_getElem (by omega)]
      rfl
    obtain ⟨y, hy, e⟩ := map_at hxs hd
    have c := str_cells ((hf i hi).trans hy) e
    have hc : cs.toList[i]? = some (.string (fldS i)) := by
      have := congrArg (fun l => l[0]?) c
      simp only [List.getElem?_take, List.getElem?_drop] at this
      rw [if_pos (by omega)] at this
      simpa [fldS] using this
    rw [World.var?_cell Tryz.gFld hvar i]
    simpa using hc
  exact ⟨World.block_lt_of_cell? W _ (hcell 0 (by omega)), hcell⟩
/-- A world for the witness. -/
noncomputable def laidWorldE (os : Os) : World :=
  { laidWorld os with heap := ((laidWorld os).heap.modify 1 fun
      | .cells _ t frozen => .cells (cdN.map fun l => Value.string ⟨l.toArray⟩).toArray t frozen
      | o => o).modify 2 fun
      | .cells _ t frozen => .cells (fldN.map fun l => Value.string ⟨l.toArray⟩).toArray t frozen
      | o => o }
theorem max_of_shapeE {W : World} (h : W.ShapedOpen Tryz.prog) : ∃ m, W.cell? ⟨0, 0, none⟩ = some (.int .i64 m) :=
  cell_of_shapedOpen_int (t := 3) (zero := #[.int .i64 0]) h (by decide +kernel) (by kernel_rfl) rfl (by kernel_rfl) (by kernel_rfl) Tryz.underlying3
theorem evs_of_laidE {W : World} (h : laidMet Tryz.prog Rows.gateEachUptoRow.laid W) (hs : W.ShapedOpen Tryz.prog) : Evs [inC W] := by
  obtain ⟨m, hm⟩ := max_of_shapeE hs
  have hT := tab_of_laid h
  have hb : ∀ W', All [inC W] W' → Below W.heap.size W W' := fun W' k => k.into (by simp)
  exact ⟨fun W' k => (vars_of_laid h).later (hb W' k), fun W' k => hT.below (hb W' k), fun W' k => (wf_of_laid (laidMet.tail h)).later (hb W' k), fun W' k => ⟨m, cell_under (hb W' k) (by have := World.block_lt_of_cell? W _ hm; simpa using this) hm⟩, W, by simp, hT⟩
section
variable {H : Type} {enc : TypeId × Value → H} {W : World} {base : Nat} {sp : Nat → Bool} {held : Bool} {fuel : Nat} {cs : List Value} {x : DataW H × List MemPlace}
theorem bulk_all_app (a b : List (DataW H)) : Rows.uptoBulkAll (a ++ b) = Rows.uptoBulkAll a + Rows.uptoBulkAll b := by
  induction a with
  | nil => simp [Rows.uptoBulkAll]
  | cons d r ih => simp only [List.cons_append, Rows.uptoBulkAll, ih]; omega
theorem bulk_strs (Sx : Nat → ByteArray) (l : List Nat) : lenJ (l.map fun i => (Sx i).data.toList) + l.length ≤ 32 * Rows.uptoBulkAll (l.map fun i => (.lit (.string (Sx i).data.toList) : DataW H)) := by
  induction l with
  | nil => simp [lenJ]
  | cons a r ih =>
    simp only [lenJ, List.map_cons, List.sum_cons, Rows.uptoBulkAll, Rows.uptoBulk, List.length_cons] at ih ⊢
    omega
/-- Texts that came in, with how much they hold. -/
theorem texts_bulk (h : DataW.trod enc Tryz.prog W base sp held fuel 43 cs = some x) : ∃ s l, cs = [s] ∧ Rt W s l ∧ lenJ l + l.length ≤ 32 * Rows.uptoBulk x.1 := by
  rcases open_strs Tryz.underlying43 Tryz.underlying9 Tryz.cells9 h with ⟨rfl, rfl⟩ | ⟨a, len, cap, m, Sx, rfl, _, hl, hm, hmm, rfl, hc⟩
  · exact ⟨_, [], rfl, ⟨none, 0, rfl, by simp, Or.inl rfl⟩, by simp [lenJ]⟩
  · have hlm : len ≤ m := by rw [hmm]; split <;> omega
    refine ⟨_, (List.range len).map fun i => (Sx i).data.toList, rfl, ⟨some a, cap, by simp, by simpa using hl, ?_⟩, ?_⟩
    · by_cases h0 : len = 0
      · left; subst h0; rfl
      · right
        have hc0 := (hc 0 (by omega)).1
        have hsp : a.spot = none := by
          have := World.cell?_spot hc0
          simpa [Addr.add] using this
        obtain ⟨b, off, sp'⟩ := a
        simp only at hsp
        subst hsp
        refine ⟨b, off, rfl, ?_, fun j hj => ?_⟩
        · have := World.block_lt_of_cell? W _ hc0
          simpa [Addr.add] using this
        · have hj' : j < len := by simpa using hj
          have h1 := (hc j (by omega)).1
          rw [Addr.add_lit] at h1
          rw [h1]
          simp
    · have := bulk_strs (H := H) Sx (List.range len)
      simp only [Rows.uptoBulk, List.length_map] at this ⊢
      omega
theorem open_wsB {v : Value} {d : DataW H} {p : List MemPlace} (h : DataW.Trod enc Tryz.prog W 0 (fun _ => true) true 43 v d p) (hv : ∃ a l c, v = .slice a l c) (hb : Rows.uptoBulk d ≤ 1048576) : ∃ ws, Rt W v ws ∧ lenJ ws ≤ 33554432 := by
  obtain ⟨fuel, hf⟩ := h
  obtain ⟨a0, l0, c0, rfl⟩ := hv
  obtain ⟨s, l, e, hr, hz⟩ := texts_bulk hf
  simp [Value.cells] at e
  subst e
  simp only at hz
  exact ⟨l, hr, by omega⟩
end
theorem lenJ_cons (a : List UInt8) (r : Ws) : lenJ (a :: r) = 4 * a.length + 16 + lenJ r := by simp [lenJ]
theorem lenJ_all : ∀ {l : Ws} {k : Nat}, lenJ l ≤ k → 16 * l.length ≤ k ∧ ∀ x ∈ l, x.length ≤ k
  | [], k, h => ⟨Nat.zero_le _, fun x hx => by cases hx⟩
  | a :: r, k, h => by
    rw [lenJ_cons] at h
    obtain ⟨h1, h2⟩ := lenJ_all (l := r) (k := k - (4 * a.length + 16)) (by omega)
    refine ⟨by simp only [List.length_cons]; omega, fun x hx => ?_⟩
    rcases List.mem_cons.1 hx with rfl | hx
    · omega
    · have := h2 x hx; omega
end Go.Proofs.YtdhkdniddjnigaaGreatDoor

import Derived.Test.YtdhkdniddjnigaaGreatDoorBase
import Derived.Lib.Strings
namespace Go.Proofs.YtdhkdniddjnigaaGreatDoor
open Go.RowKit
set_option linter.unusedVariables false

abbrev ptr (B : Nat) : Value := .pointer (some ⟨B, 0, none⟩)
def txW (ws : Ws) : List Value := ws.map fun w => Value.string ⟨w.toArray⟩
theorem txW_length (ws : Ws) : (txW ws).length = ws.length := by simp [txW]
theorem txW_snoc (ws : Ws) (w : List UInt8) : txW (ws ++ [w]) = txW ws ++ [.string ⟨w.toArray⟩] := by simp [txW]
/-- One byte laid behind one's own. -/
theorem app_byte {W : World} {v : Value} {l : List UInt8} {cs : List Comp} (A : All (ownC 5 v (cellsB l) :: cs) W) (b : UInt8) (hl : l.length + 1 ≤ 140737488355328) :
    ∃ ao c w', (Builtin.append_ #[40, 40] 40 #[v, .slice (some ⟨W.heap.size, 0, none⟩) 1 1]).run Tryz.prog (W.alloc (.cells #[.int .u8 (b.toNat : Int)] 5)) = .ok (.slice ao (l.length + 1) c) w' ∧ All (ownC 5 (.slice ao (l.length + 1) c) (cellsB (l ++ [b])) :: cs) w' := by
  obtain ⟨i1, hi1, hz0, hz1, hz2⟩ := info_parts Tryz.info5
  obtain ⟨ao, c, w', hr, A2⟩ := app1 (H := W.heap.size) (x := .int .u8 (b.toNat : Int)) Tryz.underlying40 hi1 hz0 hz1 hz2 rfl (A.alloc (.cells #[.int .u8 (b.toNat : Int)] 5)) (by rw [cell_at (heap_alloc_new W _)]; rfl) rfl (by rw [cellsB_length]; unfold maxLen; omega) (by rw [cellsB_length]; omega)
  rw [cellsB_length] at hr A2
  refine ⟨ao, c, w', hr, ?_⟩
  rw [cellsB_append]
  exact A2
/-- One text laid behind one's own. -/
theorem app_txt {W : World} {v : Value} {l : Ws} {cs : List Comp} (A : All (ownC 9 v (txW l) :: cs) W) (x : List UInt8) (hl : l.length + 1 ≤ 1000000000000) :
    ∃ ao c w', (Builtin.append_ #[43, 43] 43 #[v, .slice (some ⟨W.heap.size, 0, none⟩) 1 1]).run Tryz.prog (W.alloc (.cells #[.string ⟨x.toArray⟩] 9)) = .ok (.slice ao (l.length + 1) c) w' ∧ All (ownC 9 (.slice ao (l.length + 1) c) (txW (l ++ [x])) :: cs) w' := by
  obtain ⟨i1, hi1, hz0, hz1, hz2⟩ := info_parts Tryz.info9
  obtain ⟨ao, c, w', hr, A2⟩ := app1 (H := W.heap.size) (x := .string ⟨x.toArray⟩) Tryz.underlying43 hi1 hz0 hz1 hz2 rfl (A.alloc (.cells #[.string ⟨x.toArray⟩] 9)) (by rw [cell_at (heap_alloc_new W _)]; rfl) rfl (by rw [txW_length]; unfold maxLen; omega) (by rw [txW_length]; omega)
  rw [txW_length] at hr A2
  refine ⟨ao, c, w', hr, ?_⟩
  rw [txW_snoc]
  exact A2

theorem foldl_push (l : List UInt8) : ∀ s : ByteArray, (l.map fun b => (b.toNat : Int)).foldl (fun r n => r.push (UInt8.ofNat n.toNat)) s = ⟨s.data ++ l.toArray⟩ := by
  induction l with
  | nil => intro s; simp
  | cons c r ih =>
    intro s
    simp only [List.map_cons, List.foldl_cons]
    rw [ih]
    simp [ByteArray.push]
theorem conv_string {w : World} {ao : Option Addr} {n c : Nat} {l : List UInt8} (h : Reads w (.slice ao n c) l) : (convert 40 9 (.slice ao n c)).run Tryz.prog w = .ok (.string ⟨l.toArray⟩) w := by
  obtain ⟨ao, c, e, hc, hcase⟩ := h
  simp only [Value.slice.injEq] at e
  obtain ⟨rfl, rfl, rfl⟩ := e
  rw [run_convert_bytes_string w 40 9 5 _ l.length _ Tryz.underlying40 Tryz.underlying5 Tryz.underlying9]
  rcases hcase with ⟨rfl, h0⟩ | ⟨g, o, rfl, hg, hcell⟩
  · rcases ao with _ | a
    · obtain rfl := h0 rfl; rfl
    ·
      have hl : (loadCells a 0).run Tryz.prog w = .ok #[] w := by
        have := run_loadCells_list (P := Tryz.prog) w a [] (by simp)
        simpa using this
      rw [List.length_nil, run_bytesToString w a 0 c [] (by simpa using hl)]
      rfl
  · have hl : (loadCells ⟨g, o, none⟩ l.length).run Tryz.prog w = .ok (((l.map fun b => (b.toNat : Int)).map (Value.int .u8)).toArray) w := by
      have := run_loadCells_list (P := Tryz.prog) w ⟨g, o, none⟩ (cellsB l) (by simpa [Addr.add_lit] using hcell)
      rw [cellsB_length] at this
      simpa [cellsB, Function.comp_def] using this
    rw [run_bytesToString w ⟨g, o, none⟩ l.length _ _ hl, foldl_push]
    simp

theorem step_append_run {P : Program} {w : World} {ops : Array Oper} {o : Oper} {a : Act} {K : Act → World → Prop} {Q : Exit → Act → World → Prop} {E : Prop} (hgd : o.guard = none) (s x : Operand) (t : TypeId)
    (ho : o.op = .call { callee := .builtin .append, args := #[s, x], argTypes := #[t, t] }) (v1 v2 v' : Value) (w' : World) (hs : a.eval s = v1) (hx : a.eval x = v2)
    (hr : (Builtin.append_ #[t, t] o.type #[v1, v2]).run P w = .ok v' w') (h : K (a.put o.dst v') w') :
    if Region.wanted o (yielded ops a.tmps) = true then Oper.wp P o a w K Q else E := by
  have hw : Region.wanted o (yielded ops a.tmps) = true := by simp [Region.wanted, hgd]
  rw [if_pos hw]
  unfold Oper.wp execOp
  simp only [ho, resolve, invoke, builtin, Sem.run_bind, Sem.run_pure, Result.andThen_ok, List.map_toArray, List.map_cons, List.map_nil, hs, hx, hr]
  exact h

theorem reads_own {e : Value} {l : List UInt8} {cs : List Comp} {w : World} (h : All (ownC 5 e (cellsB l) :: cs) w) : Reads w e l := by
  have := h.1.2.1
  exact Reads.of_owns (base := 0) (by rw [← cellsB_length l]; exact this)

theorem idx_at {l : List UInt8} {k : Nat} (hk : k < l.length) (W : World) : (Instr.index 9 (.string ⟨l.toArray⟩) (.int .i64 (k : Int))).run Tryz.prog W = .ok (.int .u8 ((l.getD k 0).toNat : Int)) W := by
  have hs : (⟨l.toArray⟩ : ByteArray).size = l.length := by simp [ByteArray.size]
  rw [run_index_string W 9 _ _ _ Tryz.underlying9, dif_pos ⟨by omega, by rw [hs]; omega⟩]
  congr 3
  have h1 : ((k : Int).toNat) = k := by simp
  simp only [h1]
  have : (⟨l.toArray⟩ : ByteArray)[k]'(by rw [hs]; omega) = l[k] := by
    show (ByteArray.get _ _ _) = _
    simp [ByteArray.get]
  rw [this]
  simp [List.getD, hk]

theorem take_snocB {x : List UInt8} {k : Nat} (hk : k < x.length) : x.take (k + 1) = x.take k ++ [x.getD k 0] := by
  rw [List.take_add_one, List.getElem?_eq_getElem hk]
  simp [List.getD, hk]


theorem All.setOwn {t : TypeId} {g n cap k : Nat} {us : List Value} {u : Value} {cs : List Comp} {w : World} (h : All (ownC t (.slice (some ⟨g, 0, none⟩) n cap) us :: cs) w) : All (ownC t (.slice (some ⟨g, 0, none⟩) n cap) (us.set k u) :: cs) (w.setCell ⟨g, k, none⟩ u) := by
  have ho : w.ownsRow 0 t 1 (.slice (some ⟨g, 0, none⟩) n cap) us.length us := h.1.2.1
  obtain ⟨hn, _⟩ := owns_len ho
  subst hn
  have hs := (World.ownsRow.stored ho k u).1
  refine h.turn (Fr.setCell w g k _) (ownC_good _ _ _) ?_ (Gr.refl _ _) (fun k' hk' => ?_)
  · show World.ownsRow _ 0 t 1 _ (us.set k u).length _
    rw [List.length_set]; exact hs
  · have := h.1.2.2 k' hk'
    simpa [World.setCell] using this

/-- A list of texts that is read. -/
def Rt (w : World) (s : Value) (l : Ws) : Prop :=
  ∃ ao c, s = .slice ao l.length c ∧ l.length ≤ c ∧ (l = [] ∨ ∃ g o, ao = some ⟨g, o, none⟩ ∧ g < w.heap.size ∧ ∀ j (h : j < l.length), w.cell? ⟨g, o + j, none⟩ = some (.string ⟨l[j].toArray⟩))
theorem Rt.later {w w' : World} {s : Value} {l : Ws} (h : Rt w s l) (hb : Below w.heap.size w w') : Rt w' s l := by
  obtain ⟨ao, c, e, hc, hx⟩ := h
  refine ⟨ao, c, e, hc, hx.imp id ?_⟩
  rintro ⟨g, o, ea, hg, hcell⟩
  exact ⟨g, o, ea, Nat.lt_of_lt_of_le hg hb.size, fun j hj => cell_under hb hg (hcell j hj)⟩
theorem Rt.form {w : World} {s : Value} {l : Ws} (h : Rt w s l) : ∃ ao c, s = .slice ao l.length c := by obtain ⟨ao, c, e, _⟩ := h; exact ⟨ao, c, e⟩
theorem Rt.at {w : World} {ao : Option Addr} {n c : Nat} {l : Ws} (h : Rt w (.slice ao n c) l) {j : Nat} (hj : j < l.length) : ∃ g o, ao = some ⟨g, o, none⟩ ∧ g < w.heap.size ∧ w.cell? ⟨g, o + j, none⟩ = some (.string ⟨(l.getD j []).toArray⟩) := by
  obtain ⟨ao', c', e, hc, hx⟩ := h
  simp only [Value.slice.injEq] at e
  obtain ⟨rfl, _, _⟩ := e
  rcases hx with rfl | ⟨g, o, ea, hg, hcell⟩
  · simp at hj
  · refine ⟨g, o, ea, hg, ?_⟩
    rw [hcell j hj]
    simp [List.getD, hj]
theorem Rt.of_owns {w : World} {base : Nat} {s : Value} {l : Ws} (h : w.ownsRow base 9 1 s (txW l).length (txW l)) : Rt w s l := by
  obtain ⟨ao, c, rfl⟩ := owns_form h
  have hl := owns_len h
  rw [txW_length] at hl ⊢
  refine ⟨ao, c, rfl, hl.2, ?_⟩
  by_cases h0 : l = []
  · exact Or.inl h0
  · have h1 : 0 < l.length := List.length_pos_iff.2 h0
    obtain ⟨g, rfl, hc, _⟩ := owns_at h (k := 0) (u := .string ⟨l[0].toArray⟩) (by simp [txW, h1])
    refine Or.inr ⟨g, 0, rfl, World.block_lt_of_cell? w _ hc, fun j hj => ?_⟩
    obtain ⟨g', e, hc', _⟩ := owns_at h (k := j) (u := .string ⟨l[j].toArray⟩) (by simp [txW, hj])
    simp only [Option.some.injEq, Addr.mk.injEq, and_true] at e
    subst e
    simpa using hc'
theorem rt_own {v : Value} {l : Ws} {cs : List Comp} {w : World} (h : All (ownC 9 v (txW l) :: cs) w) : Rt w v l := Rt.of_owns (base := 0) h.1.2.1
theorem rt_mem {v : Value} {l : Ws} {cs : List Comp} {w : World} (h : All cs w) (hm : ownC 9 v (txW l) ∈ cs) : Rt w v l := Rt.of_owns (base := 0) (h.mem hm).2.1

theorem ba_ne {x y : List UInt8} : ((⟨x.toArray⟩ : ByteArray).toList == (⟨y.toArray⟩ : ByteArray).toList) = decide (x = y) := by
  rw [Lib.toList_data, Lib.toList_data, Bool.eq_iff_iff]
  simp
theorem differ_ws {l t : Ws} (hl : l.length = t.length) (h : l ≠ t) : ∃ k, k < l.length ∧ l.getD k [] ≠ t.getD k [] := by
  apply Classical.byContradiction
  intro hn
  apply h
  apply List.ext_getElem hl
  intro i h1 h2
  apply Classical.byContradiction
  intro hne
  exact hn ⟨i, h1, by simpa [List.getD, List.getElem?_eq_getElem h1, List.getElem?_eq_getElem h2] using hne⟩

theorem set_next {n k : Nat} {x : List UInt8} {l : Ws} (hk : k < l.length) : (txW (List.replicate k x ++ l.drop k)).set k (.string ⟨x.toArray⟩) = txW (List.replicate (k + 1) x ++ l.drop (k + 1)) := by
  rw [show (Value.string ⟨x.toArray⟩) = (fun y : List UInt8 => Value.string ⟨y.toArray⟩) x from rfl, txW, ← List.map_set]
  unfold txW
  congr 1
  rw [List.set_append_right _ _ (by simp), List.length_replicate, Nat.sub_self, List.drop_eq_getElem_cons hk, List.set_cons_zero, List.replicate_succ']
  simp

theorem rt_two (w : World) (x y : List UInt8) : Rt (w.alloc (.cells #[.string ⟨x.toArray⟩, .string ⟨y.toArray⟩] 9)) (.slice (some ⟨w.heap.size, 0, none⟩) 2 2) [x, y] := by
  refine ⟨some ⟨w.heap.size, 0, none⟩, 2, rfl, by simp, Or.inr ⟨w.heap.size, 0, rfl, by simp, fun j hj => ?_⟩⟩
  rw [cell_at (heap_alloc_new w _)]
  match j with
  | 0 => rfl
  | 1 => rfl
  | j + 2 => simp at hj; omega

theorem own9 {v : Value} {l : Ws} {cs : List Comp} {w : World} (h : All (ownC 9 v (txW l) :: cs) w) : ∃ ao c, v = .slice ao l.length c := by
  have := owns_form (h.1.2.1 : w.ownsRow 0 9 1 v _ _)
  rw [txW_length] at this
  exact this


end Go.Proofs.YtdhkdniddjnigaaGreatDoor

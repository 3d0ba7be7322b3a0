import Derived.Test.YtfeppannfcbakaaGreatDoorShelf
import Derived.Test.YtfeppannfcbakaaGreatDoorWd
import Derived.Deep.Upon
import Derived.Deep.QuietTactic
import Derived.BigQuiet
import Derived.Laws.Rows
import Derived.Deep.MidRow
import Derived.Deep.RegionHeld3
import Derived.Deep.DeepCutAuto
import Derived.Lib.Strings
namespace Go.Proofs.YtfeppannfcbakaaGreatDoor
open Go.RowKit
set_option linter.unusedVariables false

theorem Tryz.info5 : (Tryz.prog.info? 5).map (fun i => (i.zero, i.size, i.bytes)) = some (some (.int .u8 0), 1, 1) := by kernel_rfl

/-- Bytes as cells. -/
def cellsB (l : List UInt8) : List Value := l.map fun b => Value.int .u8 (b.toNat : Int)

theorem cellsB_length (l : List UInt8) : (cellsB l).length = l.length := by simp [cellsB]
theorem cellsB_append (a b : List UInt8) : cellsB (a ++ b) = cellsB a ++ cellsB b := by simp [cellsB]
theorem cellsB_one (l : List UInt8) : ∀ u ∈ cellsB l, u.oneCell' = true := by
  intro u hu
  obtain ⟨_, _, rfl⟩ := List.mem_map.1 hu
  rfl

/-- A slice of bytes, read in a world; of an empty one's address nothing is known. -/
def Reads (w : World) (s : Value) (l : List UInt8) : Prop :=
  ∃ ao c, s = .slice ao l.length c ∧ l.length ≤ c ∧ ((l = [] ∧ (ao = none → c = 0)) ∨ ∃ g o, ao = some ⟨g, o, none⟩ ∧ g < w.heap.size ∧ ∀ j u, (cellsB l)[j]? = some u → w.cell? ⟨g, o + j, none⟩ = some u)

theorem Reads.form {w : World} {s : Value} {l : List UInt8} (h : Reads w s l) : ∃ ao c, s = .slice ao l.length c := by
  obtain ⟨ao, c, rfl, _⟩ := h
  exact ⟨ao, c, rfl⟩

theorem Reads.nil (w : World) : Reads w (.slice none 0 0) [] := ⟨none, 0, rfl, by simp, Or.inl ⟨rfl, fun _ => rfl⟩⟩

theorem Reads.at_u8 {w : World} {ao : Option Addr} {n c : Nat} {l : List UInt8} (h : Reads w (.slice ao n c) l) (k : Nat) (hk : k < l.length) : ∃ g o, ao = some ⟨g, o, none⟩ ∧ w.cell? ⟨g, o + k, none⟩ = some (.int .u8 ((l.getD k 0).toNat : Int)) := by
  obtain ⟨ao', c', e, hc, hcase⟩ := h
  simp only [Value.slice.injEq] at e
  obtain ⟨rfl, rfl, rfl⟩ := e
  rcases hcase with ⟨rfl, _⟩ | ⟨g, o, rfl, hg, hcell⟩
  · simp at hk
  · exact ⟨g, o, rfl, hcell k _ (by simp [cellsB, hk, List.getD])⟩

/-- Bytes that are read stay, where their block stays. -/
theorem Reads.kept {w w' : World} {s : Value} {l : List UInt8} (h : Reads w s l) (hsz : w.heap.size ≤ w'.heap.size) (hb : ∀ k, k < w.heap.size → s.ownBlock = some k → w'.heap[k]? = w.heap[k]?) : Reads w' s l := by
  obtain ⟨ao, c, rfl, hc, hcase⟩ := h
  refine ⟨ao, c, rfl, hc, ?_⟩
  rcases hcase with hn | ⟨g, o, rfl, hg, hcell⟩
  · exact Or.inl hn
  · refine Or.inr ⟨g, o, rfl, Nat.lt_of_lt_of_le hg hsz, fun j u hu => ?_⟩
    rw [World.cell?_of_block (w := w) (hb g hg rfl)]
    exact hcell j u hu

theorem Reads.below {w w' : World} {s : Value} {l : List UInt8} (h : Reads w s l) (hw : Below w.heap.size w w') : Reads w' s l :=
  h.kept hw.size fun k hk _ => hw.block k hk

theorem Reads.drewN {w : World} {s : Value} {l : List UInt8} (h : Reads w s l) (q : Nat) : Reads (w.drewN q) s l := h.kept (Nat.le_refl _) (fun _ _ _ => rfl)
theorem Reads.drew {w : World} {s : Value} {l : List UInt8} (h : Reads w s l) : Reads w.drew s l := h.kept (Nat.le_refl _) (fun _ _ _ => rfl)

theorem Reads.of_owns {w : World} {base : Nat} {s : Value} {l : List UInt8} (h : w.ownsRow base 5 1 s l.length (cellsB l)) : Reads w s l := by
  have hc := fun g => h.cells (g := g)
  rcases h.2 with ⟨rfl, e⟩ | ⟨g, cap, cur, rfl, hg, hgg, hn, _⟩
  · exact ⟨none, 0, by rw [e], by omega, Or.inl ⟨List.eq_nil_of_length_eq_zero e, fun _ => rfl⟩⟩
  · refine ⟨_, cap, rfl, hn, Or.inr ⟨g, 0, rfl, (Array.getElem?_eq_some_iff.1 hgg).1, fun j u hu => ?_⟩⟩
    have := hc g rfl j u hu
    simpa [Addr.add_lit] using this

theorem u8_eq {a b : UInt8} (h : a.toNat = b.toNat) : a = b := UInt8.toNat_inj.1 h
theorem differ_at {l t : List UInt8} (hl : l.length = t.length) (h : l ≠ t) : ∃ k, k < l.length ∧ l.getD k 0 ≠ t.getD k 0 := by
  apply Classical.byContradiction
  intro hn
  apply h
  apply List.ext_getElem hl
  intro i h1 h2
  apply Classical.byContradiction
  intro hne
  exact hn ⟨i, h1, by simpa [List.getD, List.getElem?_eq_getElem h1, List.getElem?_eq_getElem h2] using hne⟩


theorem Tryz.info9 : (Tryz.prog.info? 9).map (fun i => (i.zero, i.size, i.bytes)) = some (some (.string ⟨#[]⟩), 1, 16) := by kernel_rfl
abbrev txtV (l : List ByteArray) : List Value := l.map Value.string
/-- A list of texts that is read. -/
def Txts (w : World) (s : Value) (l : List ByteArray) : Prop :=
  ∃ ao c, s = .slice ao l.length c ∧ l.length ≤ c ∧ (l = [] ∨ ∃ g o, ao = some ⟨g, o, none⟩ ∧ g < w.heap.size ∧ ∀ j (h : j < l.length), w.cell? ⟨g, o + j, none⟩ = some (.string l[j]))

theorem Txts.later {w w' : World} {s : Value} {l : List ByteArray} (h : Txts w s l) (hb : Below w.heap.size w w') : Txts w' s l := by
  obtain ⟨ao, c, e, hc, hx⟩ := h
  refine ⟨ao, c, e, hc, hx.imp id ?_⟩
  rintro ⟨g, o, ea, hg, hcell⟩
  exact ⟨g, o, ea, Nat.lt_of_lt_of_le hg hb.size, fun j hj => cell_under hb hg (hcell j hj)⟩
theorem Txts.alloc {w : World} {s : Value} {l : List ByteArray} (h : Txts w s l) (o : Obj) : Txts (w.alloc o) s l := h.later (ba w o)

theorem Txts.form {w : World} {s : Value} {l : List ByteArray} (h : Txts w s l) : ∃ ao c, s = .slice ao l.length c := by obtain ⟨ao, c, e, _⟩ := h; exact ⟨ao, c, e⟩
theorem Txts.at {w : World} {ao : Option Addr} {n c : Nat} {l : List ByteArray} (h : Txts w (.slice ao n c) l) {j : Nat} (hj : j < l.length) : ∃ g o, ao = some ⟨g, o, none⟩ ∧ g < w.heap.size ∧ w.cell? ⟨g, o + j, none⟩ = some (.string l[j]) := by
  obtain ⟨ao', c', e, hc, hx⟩ := h
  simp only [Value.slice.injEq] at e
  obtain ⟨rfl, _, _⟩ := e
  rcases hx with rfl | ⟨g, o, ea, hg, hcell⟩
  · simp at hj
  · exact ⟨g, o, ea, hg, hcell j hj⟩

theorem srcNil {w : World} {size : Nat} {tx e' : TypeId} (hk : Tryz.prog.underlying tx = some (.slice e')) (ao : Option Addr) (c : Nat) : Src Tryz.prog size tx (.slice ao 0 c) 0 [] w := by
  cases ao with
  | none => exact Src.ofNil w hk c
  | some a => exact Src.ofSlice w hk a 0 c [] (by simp) (fun j u h => by simp at h) (fun u h => by simp at h)
theorem wpList_append_run {P : Program} {w : World} {ops : Array Oper} {rest : List Oper} {o : Oper} {a : Act} {Q : Exit → Act → World → Prop} (hgd : o.guard = none) (s x : Operand) (t : TypeId)
    (ho : o.op = .call { callee := .builtin .append, args := #[s, x], argTypes := #[t, t] }) (v1 v2 v' : Value) (w' : World) (hs : a.eval s = v1) (hx : a.eval x = v2)
    (hr : (Builtin.append_ #[t, t] o.type #[v1, v2]).run P w = .ok v' w') (h : wpList P ops Q rest (a.put o.dst v') w') : wpList P ops Q (o :: rest) a w := by
  refine wpList_plain hgd fun K hK => ?_
  unfold Oper.wp execOp
  simp only [ho, resolve, invoke, builtin, Sem.run_bind, Sem.run_pure, Result.andThen_ok, List.map_toArray, List.map_cons, List.map_nil, hs, hx, hr]
  exact hK _ _ h
theorem All.addMade {cs : List Comp} {w : World} (h : All cs w) : All (ownC 9 (.slice (some ⟨w.heap.size, 0, none⟩) 0 0) (txtV []) :: cs) (w.alloc (.cells #[] 9)) := by
  refine h.addOwn (ba w _) ?_
  have := World.ownsRow_made (base := w.heap.size) (e := 9) (size := 1) w #[] 0 (Nat.le_refl _) (by unfold maxLen; omega) rfl
  exact this
/-- Texts are laid behind one's own. -/
theorem appX {W : World} {v v2 : Value} {l l2 : List ByteArray} {cs : List Comp} (A : All (ownC 9 v (txtV l) :: cs) W) (h2 : Txts W v2 l2) (hl : l.length + l2.length ≤ 1000000) :
    ∃ ao c w', (Builtin.append_ #[27, 27] 27 #[v, v2]).run Tryz.prog W = .ok (.slice ao (l.length + l2.length) c) w' ∧ All (ownC 9 (.slice ao (l.length + l2.length) c) (txtV (l ++ l2)) :: cs) w' := by
  obtain ⟨i1, hi1, hz0, hz1, hz2⟩ := info_parts Tryz.info9
  obtain ⟨ao2, c2, rfl, hc2, hx⟩ := h2
  have hown : W.ownsRow 0 9 1 v (txtV l).length (txtV l) := A.1.2.1
  obtain ⟨ao, c, rfl⟩ := owns_form hown
  rcases hx with rfl | ⟨g, o, rfl, hg, hcell⟩
  · refine ⟨ao, c, W, ?_, ?_⟩
    · have := run_append_nothing W 27 27 27 9 i1 Tryz.underlying27 hi1 ao (txtV l).length c (owns_len hown).2 (.slice ao2 0 c2) (srcNil Tryz.underlying27 ao2 c2)
      simpa using this
    · simpa using A
  · obtain ⟨v', w', hr, h2, h3, h4, h5⟩ := run_append_own_at (P := Tryz.prog) W 0 27 27 9 i1 (.string ⟨#[]⟩) 1 16 Tryz.underlying27 hi1 hz0 hz1 hz2 rfl (by decide) (.slice ao (txtV l).length c) (txtV l).length (txtV l) hown ⟨g, o, none⟩ l2.length c2 (txtV l2) (by simp)
      (fun j u hu => by
        rw [List.getElem?_map] at hu
        obtain ⟨y, hy, rfl⟩ := Option.map_eq_some_iff.1 hu
        obtain ⟨hj, rfl⟩ := List.getElem?_eq_some_iff.1 hy
        rw [Addr.add_lit]
        exact hcell j hj) (fun u hu => by
        obtain ⟨y, _, rfl⟩ := List.mem_map.1 hu
        rfl) (by simp only [List.length_map]; unfold maxLen; omega) (by simp only [List.length_map]; omega) (by omega)
    obtain ⟨ao', c', rfl⟩ := owns_form h2
    have el : (txtV l).length + l2.length = l.length + l2.length := by simp
    rw [el] at hr h2 h5
    refine ⟨ao', c', w', hr, A.ownGrow (vs' := txtV (l ++ l2)) (base := 0) ?_ h3 h5⟩
    have e1 : txtV (l ++ l2) = txtV l ++ txtV l2 := by simp [txtV]
    rw [e1, List.length_append, List.length_map, List.length_map]
    exact h2

theorem one_new {x : Value} {H : Nat} {W : World} (hc : W.cell? ⟨H, 0, none⟩ = some x) : ∀ j u, [x][j]? = some u → W.cell? ((⟨H, 0, none⟩ : Addr).add j) = some u := by
  intro j u hu
  rw [Addr.add_lit]
  match j with
  | 0 => simp only [List.getElem?_cons_zero, Option.some.injEq] at hu; subst hu; simpa using hc
  | j + 1 => simp at hu
theorem one_cell {x : Value} (h : x.oneCell' = true) : ∀ u ∈ [x], u.oneCell' = true := by
  intro u hu
  simp only [List.mem_cons, List.not_mem_nil, or_false] at hu
  subst hu
  exact h

/-- One more is laid behind one's own. -/
theorem app1 {W : World} {e t : TypeId} {i : TypeInfo} {z v x : Value} {bytes H : Nat} {us : List Value} {cs : List Comp} (hu : Tryz.prog.underlying t = some (.slice e)) (hi : Tryz.prog.info? e = some i) (hz : i.zero = some z) (hsize : i.size = 1) (hby : i.bytes = bytes) (hzs : z.cells.size = 1)
    (A : All (ownC e v us :: cs) W) (hc : W.cell? ⟨H, 0, none⟩ = some x) (h1 : x.oneCell' = true) (hl : us.length + 1 ≤ maxLen) (hl2 : (us.length + 1) * bytes ≤ 140737488355328) :
    ∃ ao c w', (Builtin.append_ #[t, t] t #[v, .slice (some ⟨H, 0, none⟩) 1 1]).run Tryz.prog W = .ok (.slice ao (us.length + 1) c) w' ∧ All (ownC e (.slice ao (us.length + 1) c) (us ++ [x]) :: cs) w' := by
  have hown : W.ownsRow 0 e 1 v us.length us := A.1.2.1
  obtain ⟨v', w', hr, h2, h3, h4, h5⟩ := run_append_own_at (P := Tryz.prog) W 0 t t e i z 1 bytes hu hi hz hsize hby hzs (by decide) v us.length us hown ⟨H, 0, none⟩ 1 1 [x] (by simp) (one_new hc) (one_cell h1) hl hl2 (by omega)
  obtain ⟨ao', c', rfl⟩ := owns_form h2
  refine ⟨ao', c', w', hr, A.ownGrow (vs' := us ++ [x]) (base := 0) ?_ h3 h5⟩
  rw [List.length_append]
  exact h2


end Go.Proofs.YtfeppannfcbakaaGreatDoor

namespace Go.Proofs.YtfeppannfcbakaaGreatDoor
open Go.RowKit
set_option linter.unusedVariables false

abbrev ptr (B : Nat) : Value := .pointer (some ⟨B, 0, none⟩)
def txW (ws : Ws) : List Value := ws.map fun w => Value.string ⟨w.toArray⟩
theorem txW_length (ws : Ws) : (txW ws).length = ws.length := by simp [txW]
theorem txW_snoc (ws : Ws) (w : List UInt8) : txW (ws ++ [w]) = txW ws ++ [.string ⟨w.toArray⟩] := by simp [txW]
/-- One byte laid behind one's own. -/
theorem app_byte {W : World} {v : Value} {l : List UInt8} {cs : List Comp} (A : All (ownC 5 v (cellsB l) :: cs) W) (b : UInt8) (hl : l.length + 1 ≤ 140737488355328) :
    ∃ ao c w', (Builtin.append_ #[32, 32] 32 #[v, .slice (some ⟨W.heap.size, 0, none⟩) 1 1]).run Tryz.prog (W.alloc (.cells #[.int .u8 (b.toNat : Int)] 5)) = .ok (.slice ao (l.length + 1) c) w' ∧ All (ownC 5 (.slice ao (l.length + 1) c) (cellsB (l ++ [b])) :: cs) w' := by
  obtain ⟨i1, hi1, hz0, hz1, hz2⟩ := info_parts Tryz.info5
  obtain ⟨ao, c, w', hr, A2⟩ := app1 (H := W.heap.size) (x := .int .u8 (b.toNat : Int)) Tryz.underlying32 hi1 hz0 hz1 hz2 rfl (A.alloc (.cells #[.int .u8 (b.toNat : Int)] 5)) (by rw [cell_at (heap_alloc_new W _)]; rfl) rfl (by rw [cellsB_length]; unfold maxLen; omega) (by rw [cellsB_length]; omega)
  rw [cellsB_length] at hr A2
  refine ⟨ao, c, w', hr, ?_⟩
  rw [cellsB_append]
  exact A2
/-- One text laid behind one's own. -/
theorem app_txt {W : World} {v : Value} {l : Ws} {cs : List Comp} (A : All (ownC 9 v (txW l) :: cs) W) (x : List UInt8) (hl : l.length + 1 ≤ 1000000000000) :
    ∃ ao c w', (Builtin.append_ #[27, 27] 27 #[v, .slice (some ⟨W.heap.size, 0, none⟩) 1 1]).run Tryz.prog (W.alloc (.cells #[.string ⟨x.toArray⟩] 9)) = .ok (.slice ao (l.length + 1) c) w' ∧ All (ownC 9 (.slice ao (l.length + 1) c) (txW (l ++ [x])) :: cs) w' := by
  obtain ⟨i1, hi1, hz0, hz1, hz2⟩ := info_parts Tryz.info9
  obtain ⟨ao, c, w', hr, A2⟩ := app1 (H := W.heap.size) (x := .string ⟨x.toArray⟩) Tryz.underlying27 hi1 hz0 hz1 hz2 rfl (A.alloc (.cells #[.string ⟨x.toArray⟩] 9)) (by rw [cell_at (heap_alloc_new W _)]; rfl) rfl (by rw [txW_length]; unfold maxLen; omega) (by rw [txW_length]; omega)
  rw [txW_length] at hr A2
  refine ⟨ao, c, w', hr, ?_⟩
  rw [txW_snoc]
  exact A2

theorem foldl_push (l : List UInt8) : ∀ s : ByteArray, (l.map fun b => (b.toNat : Int)).foldl (fun r n => r.push (UInt8.ofNat n.toNat)) s = ⟨s.data ++ l.toArray⟩ := by
  induction l with
  | nil => intro s; simp
  | cons c r ih =>
    intro s
    simp only [List.map_cons, List.foldl_cons]
    rw [ih]
    simp [ByteArray.push]
theorem conv_string {w : World} {ao : Option Addr} {n c : Nat} {l : List UInt8} (h : Reads w (.slice ao n c) l) : (convert 32 9 (.slice ao n c)).run Tryz.prog w = .ok (.string ⟨l.toArray⟩) w := by
  obtain ⟨ao, c, e, hc, hcase⟩ := h
  simp only [Value.slice.injEq] at e
  obtain ⟨rfl, rfl, rfl⟩ := e
  rw [run_convert_bytes_string w 32 9 5 _ l.length _ Tryz.underlying32 Tryz.underlying5 Tryz.underlying9]
  rcases hcase with ⟨rfl, h0⟩ | ⟨g, o, rfl, hg, hcell⟩
  · rcases ao with _ | a
    · obtain rfl := h0 rfl; rfl
    ·
      have hl : (loadCells a 0).run Tryz.prog w = .ok #[] w := by
        have := run_loadCells_list (P := Tryz.prog) w a [] (by simp)
        simpa using this
      rw [List.length_nil, run_bytesToString w a 0 c [] (by simpa using hl)]
      rfl
  · have hl : (loadCells ⟨g, o, none⟩ l.length).run Tryz.prog w = .ok (((l.map fun b => (b.toNat : Int)).map (Value.int .u8)).toArray) w := by
      have := run_loadCells_list (P := Tryz.prog) w ⟨g, o, none⟩ (cellsB l) (by simpa [Addr.add_lit] using hcell)
      rw [cellsB_length] at this
      simpa [cellsB, Function.comp_def] using this
    rw [run_bytesToString w ⟨g, o, none⟩ l.length _ _ hl, foldl_push]
    simp

theorem step_append_run {P : Program} {w : World} {ops : Array Oper} {o : Oper} {a : Act} {K : Act → World → Prop} {Q : Exit → Act → World → Prop} {E : Prop} (hgd : o.guard = none) (s x : Operand) (t : TypeId)
    (ho : o.op = .call { callee := .builtin .append, args := #[s, x], argTypes := #[t, t] }) (v1 v2 v' : Value) (w' : World) (hs : a.eval s = v1) (hx : a.eval x = v2)
    (hr : (Builtin.append_ #[t, t] o.type #[v1, v2]).run P w = .ok v' w') (h : K (a.put o.dst v') w') :
    if Region.wanted o (yielded ops a.tmps) = true then Oper.wp P o a w K Q else E := by
  have hw : Region.wanted o (yielded ops a.tmps) = true := by simp [Region.wanted, hgd]
  rw [if_pos hw]
  unfold Oper.wp execOp
  simp only [ho, resolve, invoke, builtin, Sem.run_bind, Sem.run_pure, Result.andThen_ok, List.map_toArray, List.map_cons, List.map_nil, hs, hx, hr]
  exact h

theorem reads_own {e : Value} {l : List UInt8} {cs : List Comp} {w : World} (h : All (ownC 5 e (cellsB l) :: cs) w) : Reads w e l := by
  have := h.1.2.1
  exact Reads.of_owns (base := 0) (by rw [← cellsB_length l]; exact this)

theorem idx_at {l : List UInt8} {k : Nat} (hk : k < l.length) (W : World) : (Instr.index 9 (.string ⟨l.toArray⟩) (.int .i64 (k : Int))).run Tryz.prog W = .ok (.int .u8 ((l.getD k 0).toNat : Int)) W := by
  have hs : (⟨l.toArray⟩ : ByteArray).size = l.length := by simp [ByteArray.size]
  rw [run_index_string W 9 _ _ _ Tryz.underlying9, dif_pos ⟨by omega, by rw [hs]; omega⟩]
  congr 3
  have h1 : ((k : Int).toNat) = k := by simp
  simp only [h1]
  have : (⟨l.toArray⟩ : ByteArray)[k]'(by rw [hs]; omega) = l[k] := by
    show (ByteArray.get _ _ _) = _
    simp [ByteArray.get]
  rw [this]
  simp [List.getD, hk]

theorem take_snocB {x : List UInt8} {k : Nat} (hk : k < x.length) : x.take (k + 1) = x.take k ++ [x.getD k 0] := by
  rw [List.take_add_one, List.getElem?_eq_getElem hk]
  simp [List.getD, hk]


theorem All.setOwn {t : TypeId} {g n cap k : Nat} {us : List Value} {u : Value} {cs : List Comp} {w : World} (h : All (ownC t (.slice (some ⟨g, 0, none⟩) n cap) us :: cs) w) : All (ownC t (.slice (some ⟨g, 0, none⟩) n cap) (us.set k u) :: cs) (w.setCell ⟨g, k, none⟩ u) := by
  have ho : w.ownsRow 0 t 1 (.slice (some ⟨g, 0, none⟩) n cap) us.length us := h.1.2.1
  obtain ⟨hn, _⟩ := owns_len ho
  subst hn
  have hs := (World.ownsRow.stored ho k u).1
  refine h.turn (Fr.setCell w g k _) (ownC_good _ _ _) ?_ (Gr.refl _ _) (fun k' hk' => ?_)
  · show World.ownsRow _ 0 t 1 _ (us.set k u).length _
    rw [List.length_set]; exact hs
  · have := h.1.2.2 k' hk'
    simpa [World.setCell] using this

/-- A list of texts that is read. -/
def Rt (w : World) (s : Value) (l : Ws) : Prop :=
  ∃ ao c, s = .slice ao l.length c ∧ l.length ≤ c ∧ (l = [] ∨ ∃ g o, ao = some ⟨g, o, none⟩ ∧ g < w.heap.size ∧ ∀ j (h : j < l.length), w.cell? ⟨g, o + j, none⟩ = some (.string ⟨l[j].toArray⟩))
theorem Rt.later {w w' : World} {s : Value} {l : Ws} (h : Rt w s l) (hb : Below w.heap.size w w') : Rt w' s l := by
  obtain ⟨ao, c, e, hc, hx⟩ := h
  refine ⟨ao, c, e, hc, hx.imp id ?_⟩
  rintro ⟨g, o, ea, hg, hcell⟩
  exact ⟨g, o, ea, Nat.lt_of_lt_of_le hg hb.size, fun j hj => cell_under hb hg (hcell j hj)⟩
theorem Rt.form {w : World} {s : Value} {l : Ws} (h : Rt w s l) : ∃ ao c, s = .slice ao l.length c := by obtain ⟨ao, c, e, _⟩ := h; exact ⟨ao, c, e⟩
theorem Rt.at {w : World} {ao : Option Addr} {n c : Nat} {l : Ws} (h : Rt w (.slice ao n c) l) {j : Nat} (hj : j < l.length) : ∃ g o, ao = some ⟨g, o, none⟩ ∧ g < w.heap.size ∧ w.cell? ⟨g, o + j, none⟩ = some (.string ⟨(l.getD j []).toArray⟩) := by
  obtain ⟨ao', c', e, hc, hx⟩ := h
  simp only [Value.slice.injEq] at e
  obtain ⟨rfl, _, _⟩ := e
  rcases hx with rfl | ⟨g, o, ea, hg, hcell⟩
  · simp at hj
  · refine ⟨g, o, ea, hg, ?_⟩
    rw [hcell j hj]
    simp [List.getD, hj]
theorem Rt.of_owns {w : World} {base : Nat} {s : Value} {l : Ws} (h : w.ownsRow base 9 1 s (txW l).length (txW l)) : Rt w s l := by
  obtain ⟨ao, c, rfl⟩ := owns_form h
  have hl := owns_len h
  rw [txW_length] at hl ⊢
  refine ⟨ao, c, rfl, hl.2, ?_⟩
  by_cases h0 : l = []
  · exact Or.inl h0
  · have h1 : 0 < l.length := List.length_pos_iff.2 h0
    obtain ⟨g, rfl, hc, _⟩ := owns_at h (k := 0) (u := .string ⟨l[0].toArray⟩) (by simp [txW, h1])
    refine Or.inr ⟨g, 0, rfl, World.block_lt_of_cell? w _ hc, fun j hj => ?_⟩
    obtain ⟨g', e, hc', _⟩ := owns_at h (k := j) (u := .string ⟨l[j].toArray⟩) (by simp [txW, hj])
    simp only [Option.some.injEq, Addr.mk.injEq, and_true] at e
    subst e
    simpa using hc'
theorem rt_own {v : Value} {l : Ws} {cs : List Comp} {w : World} (h : All (ownC 9 v (txW l) :: cs) w) : Rt w v l := Rt.of_owns (base := 0) h.1.2.1
theorem rt_mem {v : Value} {l : Ws} {cs : List Comp} {w : World} (h : All cs w) (hm : ownC 9 v (txW l) ∈ cs) : Rt w v l := Rt.of_owns (base := 0) (h.mem hm).2.1

theorem ba_ne {x y : List UInt8} : ((⟨x.toArray⟩ : ByteArray).toList == (⟨y.toArray⟩ : ByteArray).toList) = decide (x = y) := by
  rw [Lib.toList_data, Lib.toList_data, Bool.eq_iff_iff]
  simp
theorem differ_ws {l t : Ws} (hl : l.length = t.length) (h : l ≠ t) : ∃ k, k < l.length ∧ l.getD k [] ≠ t.getD k [] := by
  apply Classical.byContradiction
  intro hn
  apply h
  apply List.ext_getElem hl
  intro i h1 h2
  apply Classical.byContradiction
  intro hne
  exact hn ⟨i, h1, by simpa [List.getD, List.getElem?_eq_getElem h1, List.getElem?_eq_getElem h2] using hne⟩

theorem set_next {n k : Nat} {x : List UInt8} {l : Ws} (hk : k < l.length) : (txW (List.replicate k x ++ l.drop k)).set k (.string ⟨x.toArray⟩) = txW (List.replicate (k + 1) x ++ l.drop (k + 1)) := by
  rw [show (Value.string ⟨x.toArray⟩) = (fun y : List UInt8 => Value.string ⟨y.toArray⟩) x from rfl, txW, ← List.map_set]
  unfold txW
  congr 1
  rw [List.set_append_right _ _ (by simp), List.length_replicate, Nat.sub_self, List.drop_eq_getElem_cons hk, List.set_cons_zero, List.replicate_succ']
  simp

theorem rt_two (w : World) (x y : List UInt8) : Rt (w.alloc (.cells #[.string ⟨x.toArray⟩, .string ⟨y.toArray⟩] 9)) (.slice (some ⟨w.heap.size, 0, none⟩) 2 2) [x, y] := by
  refine ⟨some ⟨w.heap.size, 0, none⟩, 2, rfl, by simp, Or.inr ⟨w.heap.size, 0, rfl, by simp, fun j hj => ?_⟩⟩
  rw [cell_at (heap_alloc_new w _)]
  match j with
  | 0 => rfl
  | 1 => rfl
  | j + 2 => simp at hj; omega

theorem own9 {v : Value} {l : Ws} {cs : List Comp} {w : World} (h : All (ownC 9 v (txW l) :: cs) w) : ∃ ao c, v = .slice ao l.length c := by
  have := owns_form (h.1.2.1 : w.ownsRow 0 9 1 v _ _)
  rw [txW_length] at this
  exact this


end Go.Proofs.YtfeppannfcbakaaGreatDoor

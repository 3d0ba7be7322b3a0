import Derived.Test.YtdhkdniddjnigaaGreatDoorRd3
import Derived.Test.YtdhkdniddjnigaaGreatDoorRd4
import Derived.Test.YtdhkdniddjnigaaGreatDoorJn
import Derived.Test.YtdhkdniddjnigaaGreatDoorSLb
import Derived.Lib.AppendStr
namespace Go.Proofs.YtdhkdniddjnigaaGreatDoor
open Go.RowKit
set_option linter.unusedVariables false

/-- A builder in block B, with all that it has from there on. -/
abbrev Bd (B : Nat) (l : List UInt8) (w : World) : Prop := Lib.IsBuilder 188 5 B B (cellsB l) w
theorem bd_lt {B : Nat} {p : Value} {l : List Value} {w : World} (h : Lib.BuilderAt 188 5 B B p l w) : B < w.heap.size := World.block_lt_of_cell? w _ h.cell0
theorem Bd.lt {B : Nat} {l : List UInt8} {w : World} (h : Bd B l w) : B < w.heap.size := h.elim bd_lt bd_lt
theorem Tryz.size45 : (Tryz.prog.info? 188).map (·.size) = some 2 := by kernel_rfl
theorem Tryz.lies45 : liesAt Tryz.prog Tryz.prog.depth 188 (2 / Tryz.prog.cellsOf 188) 0 188 1 = true := by kernel_rfl

set_option maxHeartbeats 1000000 in
set_option maxRecDepth 1000000 in
/-- copyCheck: from then on the builder knows its place. -/
theorem bcheck_any {B : Nat} {l : List UInt8} {w : World} (h : Bd B l w) :
    Calls Tryz.prog 177 #[ptr B] w fun e w' => e = .returned (.tuple #[]) ∧ Lib.BuilderAt 188 5 B B (ptr B) (cellsB l) w' ∧ Below B w w' := by
  obtain ⟨j, hj, hjs⟩ := Option.map_eq_some_iff.1 Tryz.size45
  rcases h with h | h
  · have s0 := h.cell0
    have hsh := h.shape
    have f0 := h.frozen0
    have U := hid (h.used (ptr B))
    have hB := hid h.1
    clear h
    go_enter Tryz.func177, Tryz.ntmps177
    go_wp2
    rw [Lib.run_to_unsafe w ⟨B, 0, none⟩ Tryz.underlying186 Tryz.underlying251 hj (by rw [hjs]; decide) hsh (Nat.zero_lt_succ 1)]
    simp only [Result.andThen]
    rw [Oper.upon_value]
    go_wp2
    rw [run_callFunc_extern Tryz.func205 (by kernel_rfl) (by kernel_rfl) (by kernel_rfl) (e := Extern.AbiNoEscape.same) (by kernel_rfl), Lib.run_noEscape]
    simp only [Result.andThen]
    rw [Oper.upon_value]
    go_wp2
    rw [Lib.run_from_unsafe w ⟨B, 0, none⟩ Tryz.underlying251 Tryz.underlying186 hj hsh Tryz.lies45]
    simp only [Result.andThen]
    rw [Oper.upon_value]
    go_wp2
    go_end0
    exact ⟨rfl, U.out, (Below.refl B w).setCell (p := ⟨B, 0, none⟩) hB.out _⟩
  · have s0 := h.cell0
    have U := hid h
    clear h
    go_enter Tryz.func177, Tryz.ntmps177
    go_wp2
    rw [Lib.run_neq_ptr_same w _ Tryz.underlying186 hj]
    go_wp2
    go_end0
    exact ⟨rfl, U.out, Below.refl B _⟩

/-- Where a builder that knows its place has its bytes. -/
theorem bd_open {B : Nat} {l : List UInt8} {w : World} (h : Lib.BuilderAt 188 5 B B (ptr B) (cellsB l) w) : ∃ ao c, w.heap[B]? = some (.cells #[ptr B, .slice ao l.length c] 188 (0, 0)) ∧ w.ownsRow B 5 1 (.slice ao l.length c) (cellsB l).length (cellsB l) ∧ (Value.slice ao l.length c).ownBlock ≠ some B := by
  obtain ⟨hB, v, hbk, hown, hne⟩ := h
  obtain ⟨ao, c, rfl⟩ := owns_form hown
  rw [cellsB_length] at *
  exact ⟨ao, c, hbk, hown, hne⟩

/-- Bytes laid behind a builder's: what the store leaves. -/
theorem bd_put {B : Nat} {l m : List UInt8} {w W w2 : World} {v v' : Value} (hB0 : Below B w W) (hlt : B < w.heap.size) (hbk : W.heap[B]? = some (.cells #[ptr B, v] 188 (0, 0))) (hown0 : W.ownsRow B 5 1 v (cellsB l).length (cellsB l)) (hne : v.ownBlock ≠ some B) (hown : w2.ownsRow B 5 1 v' (cellsB m).length (cellsB m)) (hg : W.grownBy w2 v.ownBlock) :
    (w2.heap[B]? = some (.cells #[ptr B, v] 188 (0, 0))) ∧ Bd B m (w2.setCell ⟨B, 1, none⟩ v') ∧ Below B w (w2.setCell ⟨B, 1, none⟩ v') := by
  have hsz := hB0.size
  have hb2 : w2.heap[B]? = some (.cells #[ptr B, v] 188 (0, 0)) := by
    rw [hg.block B (by omega) (fun e => hne e.symm)]
    exact hbk
  refine ⟨hb2, Or.inr ?_, ?_⟩
  · exact Lib.BuilderAt.put (T := 188) (e := 5) (Nat.le_refl _) hb2 (bs' := cellsB m) hown (by decide)
  · exact (hB0.grown hg (by omega) (fun k hk => (hown0.lt k hk).1)).setCell (p := ⟨B, 1, none⟩) (Nat.le_refl _) _

set_option maxHeartbeats 1000000 in
set_option maxRecDepth 1000000 in
theorem WriteByte_any {B : Nat} {l : List UInt8} {b : UInt8} {w : World} (h : Bd B l w) (hl : l.length + 1 ≤ 140737488355328) :
    Calls Tryz.prog 132 #[ptr B, .int .u8 (b.toNat : Int)] w fun e w' => e = .returned .nilIface ∧ Bd B (l ++ [b]) w' ∧ Below B w w' := by
  obtain ⟨i1, hi1, hz0, hz1, hz2⟩ := info_parts Tryz.info5
  have C := hid (bcheck_any h)
  have hBw := h.lt
  have key : Hid (∀ w1, Lib.BuilderAt 188 5 B B (ptr B) (cellsB l) w1 → Below B w w1 → ∃ ao c ao' c' w2, w1.cell? ⟨B, 1, none⟩ = some (.slice ao l.length c) ∧ (Builtin.append_ #[40, 40] 40 #[.slice ao l.length c, .slice (some ⟨w1.heap.size, 0, none⟩) 1 1]).run Tryz.prog (w1.alloc (.cells #[.int .u8 (b.toNat : Int)] 5)) = .ok (.slice ao' (l.length + 1) c') w2 ∧ w2.cell? ⟨B, 1, none⟩ = some (.slice ao l.length c) ∧ w2.frozen? ⟨B, 1, none⟩ = false ∧ Bd B (l ++ [b]) (w2.setCell ⟨B, 1, none⟩ (.slice ao' (l.length + 1) c')) ∧ Below B w (w2.setCell ⟨B, 1, none⟩ (.slice ao' (l.length + 1) c'))) := hid (by
    intro w1 h1 hb1
    have hlt := bd_lt h1
    obtain ⟨ao, c, hbk, hown, hne⟩ := bd_open h1
    have hown1 := hown.alloc (.cells #[.int .u8 (b.toNat : Int)] 5)
    obtain ⟨v', w2, hr, h2, h3, h4⟩ := run_append_own (P := Tryz.prog) (w1.alloc (.cells #[.int .u8 (b.toNat : Int)] 5)) B 40 40 5 i1 (.int .u8 0) 1 1 Tryz.underlying40 hi1 hz0 hz1 hz2 rfl (by decide) _ _ _ hown1 ⟨w1.heap.size, 0, none⟩ 1 1 [.int .u8 (b.toNat : Int)] (by simp) (one_new (by rw [cell_at (heap_alloc_new w1 _)]; rfl)) (one_cell rfl) (by rw [cellsB_length]; unfold maxLen; omega) (by rw [cellsB_length]; omega) (by simp; omega)
    obtain ⟨ao', c', rfl⟩ := owns_form h2
    rw [cellsB_length] at hr
    have hb0 : (w1.alloc (.cells #[.int .u8 (b.toNat : Int)] 5)).heap[B]? = some (.cells #[ptr B, .slice ao l.length c] 188 (0, 0)) := by rw [Lib.alloc_old w1 _ B hlt]; exact hbk
    obtain ⟨k1, k2, k3⟩ := bd_put (m := l ++ [b]) (hb1.alloc (by omega) _) hBw hb0 hown1 hne (by rw [cellsB_append, List.length_append]; exact h2) h3
    rw [cellsB_length] at k2 k3
    exact ⟨ao, c, ao', c', w2, by rw [Lib.cell_of_heap hbk]; rfl, hr, by rw [Lib.cell_of_heap k1]; rfl, Lib.frozen_of_heap k1 1, k2, k3⟩)
  generalize hn : l.length = n at *
  clear hn h
  generalize (b.toNat : Int) = bi at *
  go_enter Tryz.func132, Tryz.ntmps132
  go_wp2_with (first | (go_at_call 177; refine C.out.mono ?_; rintro e w1 ⟨rfl, h1, hb1⟩; have hk := key.out w1 h1 hb1; obtain ⟨ao, c, ao', c', w2, s1, hr, t1, f1, A2, B2⟩ := hk; have R := hid hr; have A3 := hid A2; have B3 := hid B2; clear hr A2 B2 h1 hb1) | (at_builtin; refine wpList_append_run rfl _ _ 40 rfl _ _ _ _ rfl rfl R.out ?_))
  go_ret
  exact ⟨rfl, A3.out, B3.out⟩

theorem wpList_append_run2 {P : Program} {w : World} {ops : Array Oper} {rest : List Oper} {o : Oper} {a : Act} {Q : Exit → Act → World → Prop} (hgd : o.guard = none) (s x : Operand) (t u : TypeId)
    (ho : o.op = .call { callee := .builtin .append, args := #[s, x], argTypes := #[t, u] }) (v1 v2 v' : Value) (w' : World) (hs : a.eval s = v1) (hx : a.eval x = v2)
    (hr : (Builtin.append_ #[t, u] o.type #[v1, v2]).run P w = .ok v' w') (h : wpList P ops Q rest (a.put o.dst v') w') : wpList P ops Q (o :: rest) a w := by
  refine wpList_plain hgd fun K hK => ?_
  unfold Oper.wp execOp
  simp only [ho, resolve, invoke, builtin, Sem.run_bind, Sem.run_pure, Result.andThen_ok, List.map_toArray, List.map_cons, List.map_nil, hs, hx, hr]
  exact hK _ _ h

theorem strCells_eq (x : List UInt8) : Lib.strCells ⟨x.toArray⟩ = cellsB x := by
  simp [Lib.strCells, cellsB]

set_option maxHeartbeats 1000000 in
set_option maxRecDepth 1000000 in
theorem WriteString_any {B : Nat} {l x : List UInt8} {w : World} (h : Bd B l w) (hl : l.length + x.length ≤ 140737488355328) :
    Calls Tryz.prog 179 #[ptr B, .string ⟨x.toArray⟩] w fun e w' => e = .returned (.tuple #[.int .i64 (x.length : Int), .nilIface]) ∧ Bd B (l ++ x) w' ∧ Below B w w' := by
  obtain ⟨i1, hi1, hz0, hz1, hz2⟩ := info_parts Tryz.info5
  have C := hid (bcheck_any h)
  have hBw := h.lt
  have hz : (⟨x.toArray⟩ : ByteArray).size = x.length := by simp [ByteArray.size]
  have key : Hid (∀ w1, Lib.BuilderAt 188 5 B B (ptr B) (cellsB l) w1 → Below B w w1 → ∃ ao c ao' c' w2, w1.cell? ⟨B, 1, none⟩ = some (.slice ao l.length c) ∧ (Builtin.append_ #[40, 9] 40 #[.slice ao l.length c, .string ⟨x.toArray⟩]).run Tryz.prog w1 = .ok (.slice ao' (l.length + x.length) c') w2 ∧ w2.cell? ⟨B, 1, none⟩ = some (.slice ao l.length c) ∧ w2.frozen? ⟨B, 1, none⟩ = false ∧ Bd B (l ++ x) (w2.setCell ⟨B, 1, none⟩ (.slice ao' (l.length + x.length) c')) ∧ Below B w (w2.setCell ⟨B, 1, none⟩ (.slice ao' (l.length + x.length) c'))) := hid (by
    intro w1 h1 hb1
    have hlt := bd_lt h1
    obtain ⟨ao, c, hbk, hown, hne⟩ := bd_open h1
    obtain ⟨v', w2, hr, h2, h3, h4⟩ := Lib.run_append_own_string (P := Tryz.prog) w1 B 40 9 40 5 i1 Tryz.underlying40 Tryz.underlying9 hi1 hz0 hz1 hz2 _ _ _ hown ⟨x.toArray⟩ (by rw [cellsB_length, hz]; unfold maxLen; omega) (by rw [cellsB_length, hz]; omega) (by omega)
    obtain ⟨ao', c', rfl⟩ := owns_form h2
    rw [cellsB_length, hz] at hr
    obtain ⟨k1, k2, k3⟩ := bd_put (m := l ++ x) hb1 hBw hbk hown hne (by rw [cellsB_append, List.length_append, cellsB_length x, ← hz, ← strCells_eq]; exact h2) h3
    rw [cellsB_length, hz] at k2 k3
    exact ⟨ao, c, ao', c', w2, by rw [Lib.cell_of_heap hbk]; rfl, hr, by rw [Lib.cell_of_heap k1]; rfl, Lib.frozen_of_heap k1 1, k2, k3⟩)
  generalize hn : l.length = n at *
  clear hn h
  generalize ByteArray.mk x.toArray = X at *
  generalize hm : x.length = m at *
  clear hm
  go_enter Tryz.func179, Tryz.ntmps179
  go_wp2_with (first | (go_at_call 177; refine C.out.mono ?_; rintro e w1 ⟨rfl, h1, hb1⟩; have hk := key.out w1 h1 hb1; obtain ⟨ao, c, ao', c', w2, s1, hr, t1, f1, A2, B2⟩ := hk; have R := hid hr; have A3 := hid A2; have B3 := hid B2; clear hr A2 B2 h1 hb1) | (at_builtin; refine wpList_append_run2 rfl _ _ 40 9 rfl _ _ _ _ rfl rfl R.out ?_))
  go_ret2
  exact ⟨rfl, A3.out, B3.out⟩
end Go.Proofs.YtdhkdniddjnigaaGreatDoor

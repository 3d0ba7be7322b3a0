import Derived.Test.YtfeppannfcbakaaGreatDoorJ3
import Derived.Test.YtfeppannfcbakaaGreatDoorSLb
import Derived.Lib.AppendStr
import Derived.Test.YtfeppannfcbakaaGreatDoorEv2
import Derived.Test.YtfeppannfcbakaaGreatDoorShelf
import Derived.Test.YtfeppannfcbakaaGreatDoorJ1
import Derived.Lib.ItoaNum
import Derived.Lib.AtoiAll
namespace Go.Proofs.YtfeppannfcbakaaGreatDoor
open Go.RowKit
set_option linter.unusedVariables false

/-- A builder in block B, with all that it has from there on. -/
abbrev Bd (B : Nat) (l : List UInt8) (w : World) : Prop := Lib.IsBuilder 106 5 B B (cellsB l) w
theorem bd_lt {B : Nat} {p : Value} {l : List Value} {w : World} (h : Lib.BuilderAt 106 5 B B p l w) : B < w.heap.size := World.block_lt_of_cell? w _ h.cell0
theorem Bd.lt {B : Nat} {l : List UInt8} {w : World} (h : Bd B l w) : B < w.heap.size := h.elim bd_lt bd_lt
theorem Tryz.size45 : (Tryz.prog.info? 106).map (·.size) = some 2 := by kernel_rfl
theorem Tryz.lies45 : liesAt Tryz.prog Tryz.prog.depth 106 (2 / Tryz.prog.cellsOf 106) 0 106 1 = true := by kernel_rfl

set_option maxHeartbeats 1000000 in
set_option maxRecDepth 1000000 in
/-- copyCheck: from then on the builder knows its place. -/
theorem bcheck_any {B : Nat} {l : List UInt8} {w : World} (h : Bd B l w) :
    Calls Tryz.prog 90 #[ptr B] w fun e w' => e = .returned (.tuple #[]) ∧ Lib.BuilderAt 106 5 B B (ptr B) (cellsB l) w' ∧ Below B w w' := by
  obtain ⟨j, hj, hjs⟩ := Option.map_eq_some_iff.1 Tryz.size45
  rcases h with h | h
  · have s0 := h.cell0
    have hsh := h.shape
    have f0 := h.frozen0
    have U := hid (h.used (ptr B))
    have hB := hid h.1
    clear h
    go_enter Tryz.func90, Tryz.ntmps90
    go_wp2
    rw [Lib.run_to_unsafe w ⟨B, 0, none⟩ Tryz.underlying104 Tryz.underlying176 hj (by rw [hjs]; decide) hsh (Nat.zero_lt_succ 1)]
    simp only [Result.andThen]
    rw [Oper.upon_value]
    go_wp2
    rw [run_callFunc_extern Tryz.func122 (by kernel_rfl) (by kernel_rfl) (by kernel_rfl) (e := Extern.AbiNoEscape.same) (by kernel_rfl), Lib.run_noEscape]
    simp only [Result.andThen]
    rw [Oper.upon_value]
    go_wp2
    rw [Lib.run_from_unsafe w ⟨B, 0, none⟩ Tryz.underlying176 Tryz.underlying104 hj hsh Tryz.lies45]
    simp only [Result.andThen]
    rw [Oper.upon_value]
    go_wp2
    go_end0
    exact ⟨rfl, U.out, (Below.refl B w).setCell (p := ⟨B, 0, none⟩) hB.out _⟩
  · have s0 := h.cell0
    have U := hid h
    clear h
    go_enter Tryz.func90, Tryz.ntmps90
    go_wp2
    rw [Lib.run_neq_ptr_same w _ Tryz.underlying104 hj]
    go_wp2
    go_end0
    exact ⟨rfl, U.out, Below.refl B _⟩

/-- Where a builder that knows its place has its bytes. -/
theorem bd_open {B : Nat} {l : List UInt8} {w : World} (h : Lib.BuilderAt 106 5 B B (ptr B) (cellsB l) w) : ∃ ao c, w.heap[B]? = some (.cells #[ptr B, .slice ao l.length c] 106 (0, 0)) ∧ w.ownsRow B 5 1 (.slice ao l.length c) (cellsB l).length (cellsB l) ∧ (Value.slice ao l.length c).ownBlock ≠ some B := by
  obtain ⟨hB, v, hbk, hown, hne⟩ := h
  obtain ⟨ao, c, rfl⟩ := owns_form hown
  rw [cellsB_length] at *
  exact ⟨ao, c, hbk, hown, hne⟩

/-- Bytes laid behind a builder's: what the store leaves. -/
theorem bd_put {B : Nat} {l m : List UInt8} {w W w2 : World} {v v' : Value} (hB0 : Below B w W) (hlt : B < w.heap.size) (hbk : W.heap[B]? = some (.cells #[ptr B, v] 106 (0, 0))) (hown0 : W.ownsRow B 5 1 v (cellsB l).length (cellsB l)) (hne : v.ownBlock ≠ some B) (hown : w2.ownsRow B 5 1 v' (cellsB m).length (cellsB m)) (hg : W.grownBy w2 v.ownBlock) :
    (w2.heap[B]? = some (.cells #[ptr B, v] 106 (0, 0))) ∧ Bd B m (w2.setCell ⟨B, 1, none⟩ v') ∧ Below B w (w2.setCell ⟨B, 1, none⟩ v') := by
  have hsz := hB0.size
  have hb2 : w2.heap[B]? = some (.cells #[ptr B, v] 106 (0, 0)) := by
    rw [hg.block B (by omega) (fun e => hne e.symm)]
    exact hbk
  refine ⟨hb2, Or.inr ?_, ?_⟩
  · exact Lib.BuilderAt.put (T := 106) (e := 5) (Nat.le_refl _) hb2 (bs' := cellsB m) hown (by decide)
  · exact (hB0.grown hg (by omega) (fun k hk => (hown0.lt k hk).1)).setCell (p := ⟨B, 1, none⟩) (Nat.le_refl _) _

set_option maxHeartbeats 1000000 in
set_option maxRecDepth 1000000 in
theorem WriteByte_any {B : Nat} {l : List UInt8} {b : UInt8} {w : World} (h : Bd B l w) (hl : l.length + 1 ≤ 140737488355328) :
    Calls Tryz.prog 56 #[ptr B, .int .u8 (b.toNat : Int)] w fun e w' => e = .returned .nilIface ∧ Bd B (l ++ [b]) w' ∧ Below B w w' := by
  obtain ⟨i1, hi1, hz0, hz1, hz2⟩ := info_parts Tryz.info5
  have C := hid (bcheck_any h)
  have hBw := h.lt
  have key : Hid (∀ w1, Lib.BuilderAt 106 5 B B (ptr B) (cellsB l) w1 → Below B w w1 → ∃ ao c ao' c' w2, w1.cell? ⟨B, 1, none⟩ = some (.slice ao l.length c) ∧ (Builtin.append_ #[32, 32] 32 #[.slice ao l.length c, .slice (some ⟨w1.heap.size, 0, none⟩) 1 1]).run Tryz.prog (w1.alloc (.cells #[.int .u8 (b.toNat : Int)] 5)) = .ok (.slice ao' (l.length + 1) c') w2 ∧ w2.cell? ⟨B, 1, none⟩ = some (.slice ao l.length c) ∧ w2.frozen? ⟨B, 1, none⟩ = false ∧ Bd B (l ++ [b]) (w2.setCell ⟨B, 1, none⟩ (.slice ao' (l.length + 1) c')) ∧ Below B w (w2.setCell ⟨B, 1, none⟩ (.slice ao' (l.length + 1) c'))) := hid (by
    intro w1 h1 hb1
    have hlt := bd_lt h1
    obtain ⟨ao, c, hbk, hown, hne⟩ := bd_open h1
    have hown1 := hown.alloc (.cells #[.int .u8 (b.toNat : Int)] 5)
    obtain ⟨v', w2, hr, h2, h3, h4⟩ := run_append_own (P := Tryz.prog) (w1.alloc (.cells #[.int .u8 (b.toNat : Int)] 5)) B 32 32 5 i1 (.int .u8 0) 1 1 Tryz.underlying32 hi1 hz0 hz1 hz2 rfl (by decide) _ _ _ hown1 ⟨w1.heap.size, 0, none⟩ 1 1 [.int .u8 (b.toNat : Int)] (by simp) (one_new (by rw [cell_at (heap_alloc_new w1 _)]; rfl)) (one_cell rfl) (by rw [cellsB_length]; unfold maxLen; omega) (by rw [cellsB_length]; omega) (by simp; omega)
    obtain ⟨ao', c', rfl⟩ := owns_form h2
    rw [cellsB_length] at hr
    have hb0 : (w1.alloc (.cells #[.int .u8 (b.toNat : Int)] 5)).heap[B]? = some (.cells #[ptr B, .slice ao l.length c] 106 (0, 0)) := by rw [Lib.alloc_old w1 _ B hlt]; exact hbk
    obtain ⟨k1, k2, k3⟩ := bd_put (m := l ++ [b]) (hb1.alloc (by omega) _) hBw hb0 hown1 hne (by rw [cellsB_append, List.length_append]; exact h2) h3
    rw [cellsB_length] at k2 k3
    exact ⟨ao, c, ao', c', w2, by rw [Lib.cell_of_heap hbk]; rfl, hr, by rw [Lib.cell_of_heap k1]; rfl, Lib.frozen_of_heap k1 1, k2, k3⟩)
  generalize hn : l.length = n at *
  clear hn h
  generalize (b.toNat : Int) = bi at *
  go_enter Tryz.func56, Tryz.ntmps56
  go_wp2_with (first | (go_at_call 90; refine C.out.mono ?_; rintro e w1 ⟨rfl, h1, hb1⟩; have hk := key.out w1 h1 hb1; obtain ⟨ao, c, ao', c', w2, s1, hr, t1, f1, A2, B2⟩ := hk; have R := hid hr; have A3 := hid A2; have B3 := hid B2; clear hr A2 B2 h1 hb1) | (at_builtin; refine wpList_append_run rfl _ _ 32 rfl _ _ _ _ rfl rfl R.out ?_))
  go_ret
  exact ⟨rfl, A3.out, B3.out⟩

theorem wpList_append_run2 {P : Program} {w : World} {ops : Array Oper} {rest : List Oper} {o : Oper} {a : Act} {Q : Exit → Act → World → Prop} (hgd : o.guard = none) (s x : Operand) (t u : TypeId)
    (ho : o.op = .call { callee := .builtin .append, args := #[s, x], argTypes := #[t, u] }) (v1 v2 v' : Value) (w' : World) (hs : a.eval s = v1) (hx : a.eval x = v2)
    (hr : (Builtin.append_ #[t, u] o.type #[v1, v2]).run P w = .ok v' w') (h : wpList P ops Q rest (a.put o.dst v') w') : wpList P ops Q (o :: rest) a w := by
  refine wpList_plain hgd fun K hK => ?_
  unfold Oper.wp execOp
  simp only [ho, resolve, invoke, builtin, Sem.run_bind, Sem.run_pure, Result.andThen_ok, List.map_toArray, List.map_cons, List.map_nil, hs, hx, hr]
  exact hK _ _ h

theorem strCells_eq (x : List UInt8) : Lib.strCells ⟨x.toArray⟩ = cellsB x := by
  simp [Lib.strCells, cellsB]

set_option maxHeartbeats 1000000 in
set_option maxRecDepth 1000000 in
theorem WriteString_any {B : Nat} {l x : List UInt8} {w : World} (h : Bd B l w) (hl : l.length + x.length ≤ 140737488355328) :
    Calls Tryz.prog 92 #[ptr B, .string ⟨x.toArray⟩] w fun e w' => e = .returned (.tuple #[.int .i64 (x.length : Int), .nilIface]) ∧ Bd B (l ++ x) w' ∧ Below B w w' := by
  obtain ⟨i1, hi1, hz0, hz1, hz2⟩ := info_parts Tryz.info5
  have C := hid (bcheck_any h)
  have hBw := h.lt
  have hz : (⟨x.toArray⟩ : ByteArray).size = x.length := by simp [ByteArray.size]
  have key : Hid (∀ w1, Lib.BuilderAt 106 5 B B (ptr B) (cellsB l) w1 → Below B w w1 → ∃ ao c ao' c' w2, w1.cell? ⟨B, 1, none⟩ = some (.slice ao l.length c) ∧ (Builtin.append_ #[32, 9] 32 #[.slice ao l.length c, .string ⟨x.toArray⟩]).run Tryz.prog w1 = .ok (.slice ao' (l.length + x.length) c') w2 ∧ w2.cell? ⟨B, 1, none⟩ = some (.slice ao l.length c) ∧ w2.frozen? ⟨B, 1, none⟩ = false ∧ Bd B (l ++ x) (w2.setCell ⟨B, 1, none⟩ (.slice ao' (l.length + x.length) c')) ∧ Below B w (w2.setCell ⟨B, 1, none⟩ (.slice ao' (l.length + x.length) c'))) := hid (by
    intro w1 h1 hb1
    have hlt := bd_lt h1
    obtain ⟨ao, c, hbk, hown, hne⟩ := bd_open h1
    obtain ⟨v', w2, hr, h2, h3, h4⟩ := Lib.run_append_own_string (P := Tryz.prog) w1 B 32 9 32 5 i1 Tryz.underlying32 Tryz.underlying9 hi1 hz0 hz1 hz2 _ _ _ hown ⟨x.toArray⟩ (by rw [cellsB_length, hz]; unfold maxLen; omega) (by rw [cellsB_length, hz]; omega) (by omega)
    obtain ⟨ao', c', rfl⟩ := owns_form h2
    rw [cellsB_length, hz] at hr
    obtain ⟨k1, k2, k3⟩ := bd_put (m := l ++ x) hb1 hBw hbk hown hne (by rw [cellsB_append, List.length_append, cellsB_length x, ← hz, ← strCells_eq]; exact h2) h3
    rw [cellsB_length, hz] at k2 k3
    exact ⟨ao, c, ao', c', w2, by rw [Lib.cell_of_heap hbk]; rfl, hr, by rw [Lib.cell_of_heap k1]; rfl, Lib.frozen_of_heap k1 1, k2, k3⟩)
  generalize hn : l.length = n at *
  clear hn h
  generalize ByteArray.mk x.toArray = X at *
  generalize hm : x.length = m at *
  clear hm
  go_enter Tryz.func92, Tryz.ntmps92
  go_wp2_with (first | (go_at_call 90; refine C.out.mono ?_; rintro e w1 ⟨rfl, h1, hb1⟩; have hk := key.out w1 h1 hb1; obtain ⟨ao, c, ao', c', w2, s1, hr, t1, f1, A2, B2⟩ := hk; have R := hid hr; have A3 := hid A2; have B3 := hid B2; clear hr A2 B2 h1 hb1) | (at_builtin; refine wpList_append_run2 rfl _ _ 32 9 rfl _ _ _ _ rfl rfl R.out ?_))
  go_ret2
  exact ⟨rfl, A3.out, B3.out⟩
end Go.Proofs.YtfeppannfcbakaaGreatDoor

namespace Go.Proofs.YtfeppannfcbakaaGreatDoor
open Go.RowKit
set_option linter.unusedVariables false

theorem Tryz.extra169 : Builder.Extra Tryz.prog Tryz.lays169_ren := {
  sizeBuilder := by kernel_rfl
  liesBuilder := by kernel_rfl
  t5 := Tryz.underlying5
  a5 := Tryz.isAgg5
  z5 := Tryz.sizeOf5
  v5 := Tryz.zeroValue5
  infoByte := by kernel_rfl
  cellsByte := by kernel_rfl
  sizeByte := by kernel_rfl
  neB5 := by decide }
theorem byteCells_eq (l : List UInt8) : Lib.byteCells l = cellsB l := by simp [Lib.byteCells, cellsB]
theorem String_any {B : Nat} {l : List UInt8} {w : World} (h : Bd B l w) : Calls Tryz.prog 58 #[ptr B] w fun e w' => e = .returned (.string ⟨l.toArray⟩) ∧ Below B w w' := by
  have hB := h.lt
  have := Any.Builder_String_any_k Tryz.lays169 Tryz.extra169 B B l w (by rw [byteCells_eq]; exact Lib.IsBuilderF.of h) (by omega)
  refine Calls.mono this ?_
  rintro e w' ⟨h1, _, h2, _⟩
  exact ⟨h1, h2⟩

theorem idx_hex {n : Nat} (h : n < 16) (W : World) : (Instr.index 9 (.string ⟨#[48, 49, 50, 51, 52, 53, 54, 55, 56, 57, 97, 98, 99, 100, 101, 102]⟩) (.int .u8 (n : Int))).run Tryz.prog W = .ok (.int .u8 ((hexD n).toNat : Int)) W := by
  have hs : (⟨#[48, 49, 50, 51, 52, 53, 54, 55, 56, 57, 97, 98, 99, 100, 101, 102]⟩ : ByteArray).size = 16 := rfl
  rw [run_index_string W 9 _ _ _ Tryz.underlying9, dif_pos ⟨by omega, by rw [hs]; omega⟩]
  congr 3
  have hh : ∀ a : Fin 16, ((⟨#[48, 49, 50, 51, 52, 53, 54, 55, 56, 57, 97, 98, 99, 100, 101, 102]⟩ : ByteArray)[a.val]'(show a.val < 16 from a.isLt)).toNat = (hexD a.val).toNat := by decide +kernel
  have := hh ⟨n, h⟩
  simpa using this
theorem shr4 (n : Nat) (h : n < 256) : ((n : Int) / 16) = ((n / 16 : Nat) : Int) := by omega
theorem and15 (n : Nat) (h : n < 256) : bits BinOp.and IntKind.u8 (n : Int) 15 = ((n % 16 : Nat) : Int) := by
  have hh : ∀ a : Fin 256, bits BinOp.and IntKind.u8 (a.val : Int) 15 = ((a.val % 16 : Nat) : Int) := by decide +kernel
  exact hh ⟨n, h⟩

set_option maxHeartbeats 1000000 in
set_option maxRecDepth 1000000 in
theorem writeQuoted_any {B : Nat} {l : List UInt8} {b : UInt8} {w : World} (h : Bd B l w) (hl : l.length + 4 ≤ 140737488355328) :
    Calls Tryz.prog 93 #[ptr B, .int .u8 (b.toNat : Int)] w fun e w' => e = .returned (.tuple #[]) ∧ Bd B (l ++ escB b) w' ∧ Below B w w' := by
  have P := hid (prn_any b w)
  have hb := b.toNat_lt
  cases hp : prnN b.toNat with
  | false =>
    have e1 : escB b = [92, 120, hexD (b.toNat / 16), hexD (b.toNat % 16)] := by unfold escB; rw [hp, if_neg (by simp)]
    rw [e1]
    have C1 := hid (WriteString_any (x := [92, 120]) h (by simp; omega))
    have i1 := idx_hex (n := b.toNat / 16) (by omega)
    have i2 := idx_hex (n := b.toNat % 16) (by omega)
    have a15 := and15 b.toNat (by omega)
    have s4 := shr4 b.toNat (by omega)
    clear e1 h
    generalize b.toNat / 16 = n1 at *
    generalize b.toNat % 16 = n2 at *
    generalize hexD n1 = d1 at *
    generalize hexD n2 = d2 at *
    generalize (b.toNat : Int) = bi at *
    go_enter Tryz.func93, Tryz.ntmps93
    go_wp2_with (first | (go_at_call 123; refine P.out.mono ?_; rintro e w1 ⟨rfl, rfl⟩; rw [hp]) | (go_at_call 92; refine C1.out.mono ?_; rintro e w1 ⟨rfl, A1, B1⟩; have C2 := hid (WriteByte_any (b := d1) A1 (by simp; omega)); have BB1 := hid B1; clear A1 B1; refine Hid.out ?_))
    refine hid ?_
    go_wp2_with (go_at_call 56; refine C2.out.mono ?_; rintro e w2 ⟨rfl, A2, B2⟩; have C3 := hid (WriteByte_any (b := d2) A2 (by simp; omega)); have BB2 := hid (BB1.out.trans B2); clear A2 B2; refine Hid.out ?_)
    refine hid ?_
    go_wp2_with (go_at_call 56; refine C3.out.mono ?_; rintro e w3 ⟨rfl, A3, B3⟩; have AA3 := hid A3; have BB3 := hid (BB2.out.trans B3); clear A3 B3)
    refine bodyPost_ret (results_none rfl _ _ _) rfl ?_
    exact ⟨rfl, by simpa using AA3.out, BB3.out⟩
  | true =>
    by_cases hq : b.toNat = 34 ∨ b.toNat = 92
    · have e1 : escB b = [92, b] := by unfold escB; rw [hp, if_pos rfl, if_pos hq]
      rw [e1]
      have C1 := hid (WriteByte_any (b := 92) h (by omega))
      have c92 : ((92 : UInt8).toNat : Int) = 92 := by decide
      rw [c92] at C1
      have NB : Hid (∀ w1, Bd B (l ++ [92]) w1 → Calls Tryz.prog 56 #[ptr B, .int .u8 (b.toNat : Int)] w1 fun e w' => e = .returned .nilIface ∧ Bd B (l ++ [92] ++ [b]) w' ∧ Below B w1 w') := hid (fun w1 h1 => WriteByte_any (b := b) h1 (by simp; omega))
      clear e1 h c92
      by_cases h34 : b.toNat = 34
      · have bi : (b.toNat : Int) = 34 := by omega
        rw [bi] at P NB ⊢
        clear bi h34 hq
        go_enter Tryz.func93, Tryz.ntmps93
        go_wp2_with (first | (go_at_call 123; refine P.out.mono ?_; rintro e w1 ⟨rfl, rfl⟩; rw [hp]) | (go_at_call 56; refine C1.out.mono ?_; rintro e w1 ⟨rfl, A1, B1⟩; have C2 := hid (NB.out w1 A1); have BB1 := hid B1; clear A1 B1; refine Hid.out ?_))
        refine hid ?_
        go_wp2_with (go_at_call 56; refine C2.out.mono ?_; rintro e w2 ⟨rfl, A2, B2⟩; have AA2 := hid A2; have BB2 := hid (BB1.out.trans B2); clear A2 B2)
        go_end0
        exact ⟨rfl, by simpa using AA2.out, BB2.out⟩
      · have bi : (b.toNat : Int) = 92 := by omega
        rw [bi] at P NB ⊢
        clear bi h34 hq
        go_enter Tryz.func93, Tryz.ntmps93
        go_wp2_with (first | (go_at_call 123; refine P.out.mono ?_; rintro e w1 ⟨rfl, rfl⟩; rw [hp]) | (go_at_call 56; refine C1.out.mono ?_; rintro e w1 ⟨rfl, A1, B1⟩; have C2 := hid (NB.out w1 A1); have BB1 := hid B1; clear A1 B1; refine Hid.out ?_))
        refine hid ?_
        go_wp2_with (go_at_call 56; refine C2.out.mono ?_; rintro e w2 ⟨rfl, A2, B2⟩; have AA2 := hid A2; have BB2 := hid (BB1.out.trans B2); clear A2 B2)
        go_end0
        exact ⟨rfl, by simpa using AA2.out, BB2.out⟩
    · have e1 : escB b = [b] := by unfold escB; rw [hp, if_pos rfl, if_neg hq]
      rw [e1]
      have C1 := hid (WriteByte_any (b := b) h (by omega))
      have n34 : ((b.toNat : Int) == 34) = false := by simp; omega
      have n92 : ((b.toNat : Int) == 92) = false := by simp; omega
      clear e1 h hq hb
      generalize (b.toNat : Int) = bi at *
      go_enter Tryz.func93, Tryz.ntmps93
      go_wp2_with (first | (go_at_call 123; refine P.out.mono ?_; rintro e w1 ⟨rfl, rfl⟩; rw [hp]) | (go_at_call 56; refine C1.out.mono ?_; rintro e w1 ⟨rfl, A1, B1⟩; have AA1 := hid A1; have BB1 := hid B1; clear A1 B1))
      go_end0
      exact ⟨rfl, AA1.out, BB1.out⟩
end Go.Proofs.YtfeppannfcbakaaGreatDoor

namespace Go.Proofs.YtfeppannfcbakaaGreatDoor
open Go.RowKit
set_option linter.unusedVariables false

theorem escB_len (b : UInt8) : (escB b).length ≤ 4 ∧ 1 ≤ (escB b).length := by
  unfold escB
  split
  · split <;> simp
  · simp
theorem escW_take {x : List UInt8} {k : Nat} (hk : k < x.length) : escW (x.take (k + 1)) = escW (x.take k) ++ escB (x.getD k 0) := by
  rw [take_snocB hk, escW_snoc]
theorem escW_len (x : List UInt8) : (escW x).length ≤ 4 * x.length := by
  induction x with
  | nil => simp [escW]
  | cons b r ih =>
    have e : escW (b :: r) = escB b ++ escW r := by simp [escW]
    have := (escB_len b).1
    rw [e, List.length_append, List.length_cons]
    omega

set_option maxHeartbeats 1000000 in
set_option maxRecDepth 1000000 in
theorem write_any {B : Nat} {l x : List UInt8} {w : World} (h : Bd B l w) (hl : l.length + 4 * x.length + 10 ≤ 140737488355328) :
    Calls Tryz.prog 57 #[ptr B, .string ⟨x.toArray⟩] w fun e w' => e = .returned (.tuple #[]) ∧ Bd B (l ++ wrtW x) w' ∧ Below B w w' := by
  have I := hid (isBareWord_any (l := x) (w := w) (by omega))
  have hz : (⟨x.toArray⟩ : ByteArray).size = x.length := by simp [ByteArray.size]
  cases hx : isBareW x with
  | true =>
    have e1 : wrtW x = x := by unfold wrtW; rw [hx, if_pos rfl]
    rw [e1]
    have C := hid (WriteString_any (x := x) h (by omega))
    clear e1 h
    generalize ByteArray.mk x.toArray = X at *
    go_enter Tryz.func57, Tryz.ntmps57
    go_wp2_with (first | (go_at_call 91; refine I.out.mono ?_; rintro e w1 ⟨rfl, rfl⟩; rw [hx]) | (go_at_call 92; refine C.out.mono ?_; rintro e w1 ⟨rfl, A1, B1⟩; have AA := hid A1; have BB := hid B1; clear A1 B1))
    refine bodyPost_ret (results_none rfl _ _ _) rfl ?_
    exact ⟨rfl, AA.out, BB.out⟩
  | false =>
    have e1 : wrtW x = 34 :: (escW x ++ [34]) := by unfold wrtW; rw [hx, if_neg (by simp)]
    rw [e1]
    have c34 : ((34 : UInt8).toNat : Int) = 34 := by decide
    have C := hid (WriteByte_any (b := 34) h (by omega))
    rw [c34] at C
    have IX : Hid (∀ k, k < x.length → ∀ W, (Instr.index 9 (.string ⟨x.toArray⟩) (.int .i64 (k : Int))).run Tryz.prog W = .ok (.int .u8 ((x.getD k 0).toNat : Int)) W) := fun k hk W => idx_at hk W
    have WQ : Hid (∀ k W, k < x.length → Bd B (l ++ [34] ++ escW (x.take k)) W → Calls Tryz.prog 93 #[ptr B, .int .u8 ((x.getD k 0).toNat : Int)] W fun e w' => e = .returned (.tuple #[]) ∧ Bd B (l ++ [34] ++ escW (x.take (k + 1))) w' ∧ Below B W w') := hid (fun k W hk hb => by
      have h1 := escW_len (x.take k)
      have h2 : (x.take k).length = k := by simp; omega
      have := writeQuoted_any (b := x.getD k 0) hb (by simp only [List.length_append, List.length_cons, List.length_nil]; omega)
      rw [escW_take hk, ← List.append_assoc]
      exact this)
    have WE : Hid (∀ W, Bd B (l ++ [34] ++ escW (x.take x.length)) W → Calls Tryz.prog 56 #[ptr B, .int .u8 34] W fun e w' => e = .returned .nilIface ∧ Bd B (l ++ (34 :: (escW x ++ [34]))) w' ∧ Below B W w') := hid (fun W hb => by
      have h1 := escW_len x
      rw [List.take_length] at hb
      have := WriteByte_any (b := 34) hb (by simp only [List.length_append, List.length_cons, List.length_nil]; omega)
      rw [c34] at this
      have e2 : l ++ (34 :: (escW x ++ [34])) = l ++ [34] ++ escW x ++ [34] := by simp
      rw [e2]
      exact this)
    have E0 : Hid (escW (x.take 0) = []) := hid (by simp [escW])
    clear e1 h c34
    generalize ByteArray.mk x.toArray = X at *
    generalize hn : x.length = n at *
    clear hn
    go_enter Tryz.func57, Tryz.ntmps57
    go_wp2_with (first | (go_at_call 91; refine I.out.mono ?_; rintro e w1 ⟨rfl, hw1⟩; subst w1; rw [hx]) | (go_at_call 56; refine C.out.mono ?_; rintro e w1 ⟨rfl, A1, B1⟩; have AA := hid A1; have BB := hid B1; clear A1 B1; refine Hid.out ?_))
    refine hid ?_
    go_wp2
    go_loopw [14] (fun iv wr => ∃ k : Nat, k ≤ n ∧ iv = .int .i64 (k : Int) ∧ Hid (Bd B (l ++ [34] ++ escW (x.take k)) wr) ∧ Hid (Below B w wr)) (fun iv _ => n - (intOf iv).toNat)
    case atStart => exact ⟨0, by omega, rfl, hid (by rw [E0.out, List.append_nil]; exact AA.out), BB⟩
    case round =>
      obtain ⟨k, hk, rfl, hA, hB⟩ := hrel
      by_cases hlt : k < n
      · have ix := IX.out k hlt
        have Q := hid (WQ.out k wr hlt hA.out)
        have hlt' : (k : Int) < (n : Int) := by omega
        generalize ((x.getD k 0).toNat : Int) = bi at *
        go_wp2_with (go_at_call 93; refine Q.out.mono ?_; rintro e w2 ⟨rfl, A2, B2⟩; have AA2 := hid A2; have BB2 := hid (hB.out.trans B2); clear A2 B2)
        go_roundw
        case rel => exact ⟨k + 1, by omega, by go_num, AA2, BB2⟩
        case measure => simp [intOf]; omega
      · have hlt' : ¬ (k : Int) < (n : Int) := by omega
        have ek : k = n := by omega
        have Q := hid (WE.out wr (by rw [← ek]; exact hA.out))
        clear ek
        go_wp2_with (go_at_call 56; refine Q.out.mono ?_; rintro e w2 ⟨rfl, A2, B2⟩; have AA2 := hid A2; have BB2 := hid (hB.out.trans B2); clear A2 B2)
        go_end0
        exact ⟨rfl, AA2.out, BB2.out⟩

theorem wrtW_len (x : List UInt8) : (wrtW x).length ≤ 4 * x.length + 2 := by
  unfold wrtW
  split
  · omega
  · have := escW_len x
    simp only [List.length_cons, List.length_append, List.length_nil]
    omega
/-- How long a line of words may be. -/
def lenJ (ws : Ws) : Nat := (ws.map fun x => 4 * x.length + 16).sum
theorem take_snoc {ws : Ws} {k : Nat} (hk : k < ws.length) : ws.take (k + 1) = ws.take k ++ [ws.getD k []] := by
  rw [List.take_add_one, List.getElem?_eq_getElem hk]
  simp [List.getD, hk]
theorem lenJ_take {ws : Ws} {k : Nat} (hk : k < ws.length) : lenJ (ws.take (k + 1)) = lenJ (ws.take k) + (4 * (ws.getD k []).length + 16) := by
  rw [take_snoc hk]
  unfold lenJ
  rw [List.map_append, List.sum_append]
  simp
theorem lenJ_le : ∀ (ws : Ws) (k : Nat), lenJ (ws.take k) ≤ lenJ ws
  | [], k => by simp [lenJ]
  | x :: r, 0 => by simp [lenJ]
  | x :: r, k + 1 => by
    have := lenJ_le r k
    simp only [lenJ, List.take_succ_cons, List.map_cons, List.sum_cons] at this ⊢
    omega
theorem preW_len (ws : Ws) : (preW ws).length ≤ (joinW ws).length + 1 := by
  unfold preW
  split <;> simp
theorem joinW_len : ∀ (ws : Ws) (k : Nat), k ≤ ws.length → (joinW (ws.take k)).length ≤ lenJ (ws.take k)
  | ws, 0, h => by simp [joinW]
  | ws, k + 1, h => by
    have ih := joinW_len ws k (by omega)
    rw [lenJ_take (by omega), take_snoc (by omega), joinW_snoc, List.length_append]
    have h1 := preW_len (ws.take k)
    have h2 := wrtW_len (ws.getD k [])
    omega

set_option maxHeartbeats 1600000 in
set_option maxRecDepth 1000000 in
theorem Join_any {s : Value} {ws : Ws} {w : World} (hs : Rt w s ws) (hn : ws.length ≤ 140737488355328) (hl : lenJ ws ≤ 100000000000000) :
    Calls Tryz.prog 29 #[s] w fun e w' => e = .returned (.string ⟨(joinW ws).toArray⟩) ∧ Below w.heap.size w w' := by
  obtain ⟨ao, c, rfl⟩ := hs.form
  have HS := hid hs
  have b0 : Hid (Bd w.heap.size (joinW (ws.take 0)) (w.alloc (.cells #[.pointer none, .slice none 0 0] 106))) := hid (Or.inl ⟨Nat.le_refl _, .slice none 0 0, heap_alloc_new w _, by simpa [joinW, cellsB] using World.ownsRow_nil _ _ 5 1, by simp [Value.ownBlock]⟩)
  have bel0 := hid (ba w (.cells #[.pointer none, .slice none 0 0] 106))
  have c32 : ((32 : UInt8).toNat : Int) = 32 := by decide
  have SP : Hid (∀ k W, 0 < k → k < ws.length → Bd w.heap.size (joinW (ws.take k)) W → Calls Tryz.prog 56 #[ptr w.heap.size, .int .u8 32] W fun e w' => e = .returned .nilIface ∧ Bd w.heap.size (preW (ws.take k)) w' ∧ Below w.heap.size W w') := hid (fun k W h0 hk hb => by
    have h1 := joinW_len ws k (by omega)
    have h2 := lenJ_le ws k
    have := WriteByte_any (b := 32) hb (by omega)
    rw [c32] at this
    have e2 : preW (ws.take k) = joinW (ws.take k) ++ [32] := by
      unfold preW
      rw [if_neg (fun e => by have := congrArg List.length e; rw [List.length_take, List.length_nil] at this; omega)]
    rw [e2]
    exact this)
  have WR : Hid (∀ k W, k < ws.length → Bd w.heap.size (preW (ws.take k)) W → Calls Tryz.prog 57 #[ptr w.heap.size, .string ⟨(ws.getD k []).toArray⟩] W fun e w' => e = .returned (.tuple #[]) ∧ Bd w.heap.size (joinW (ws.take (k + 1))) w' ∧ Below w.heap.size W w') := hid (fun k W hk hb => by
    have h1 := joinW_len ws k (by omega)
    have h2 := lenJ_le ws (k + 1)
    rw [lenJ_take hk] at h2
    have h3 := preW_len (ws.take k)
    have := write_any (x := ws.getD k []) hb (by omega)
    rw [take_snoc hk, joinW_snoc]
    exact this)
  have P0 : Hid (preW (ws.take 0) = joinW (ws.take 0)) := hid (by simp [preW, joinW])
  have FN : Hid (∀ W, Bd w.heap.size (joinW (ws.take ws.length)) W → Calls Tryz.prog 58 #[ptr w.heap.size] W fun e w' => e = .returned (.string ⟨(joinW ws).toArray⟩) ∧ Below w.heap.size W w') := hid (fun W hb => by
    rw [List.take_length] at hb
    exact String_any hb)
  clear hs c32 hl
  generalize hJ : ByteArray.mk (joinW ws).toArray = J at *
  clear hJ
  generalize hnw : ws.length = n at *
  have HN := hid hnw
  clear hnw
  go_enter Tryz.func29, Tryz.ntmps29
  go_wp2
  go_loopw [8] (fun iv wr => ∃ k : Nat, k ≤ n ∧ iv = .int .i64 (k : Int) ∧ Hid (Bd w.heap.size (joinW (ws.take k)) wr) ∧ Hid (Below w.heap.size w wr)) (fun iv _ => n - (intOf iv).toNat)
  case atStart => exact ⟨0, by omega, rfl, b0, bel0⟩
  case round =>
    obtain ⟨k, hk, rfl, hA, hB⟩ := hrel
    by_cases hlt : k < n
    · obtain ⟨g, o, rfl, _, h1⟩ := (HS.out.later hB.out).at (j := k) (by rw [HN.out]; exact hlt)
      have hlt' : (k : Int) < (n : Int) := by omega
      by_cases h0 : k = 0
      · have Q := hid (WR.out k wr hlt (by have := hA.out; rw [h0] at this ⊢; rw [P0.out]; exact this))
        have hz : ¬ (0 : Int) < (k : Int) := by omega
        generalize ByteArray.mk (ws.getD k []).toArray = X at *
        clear h0
        go_wp2_with (go_at_call 57; refine Q.out.mono ?_; rintro e w2 ⟨rfl, A2, B2⟩; have AA2 := hid A2; have BB2 := hid (hB.out.trans B2); clear A2 B2)
        go_roundw
        case rel => exact ⟨k + 1, by omega, by go_num, AA2, BB2⟩
        case measure => simp [intOf]; omega
      · have Q := hid (SP.out k wr (by omega) hlt hA.out)
        have hz : (0 : Int) < (k : Int) := by omega
        have WK := hid (fun W hW => WR.out k W hlt hW)
        clear h0
        generalize ByteArray.mk (ws.getD k []).toArray = X at *
        go_wp2_with (go_at_call 56; refine Q.out.mono ?_; rintro e w2 ⟨rfl, A2, B2⟩; have Q2 := hid (WK.out w2 A2); have BB2 := hid (hB.out.trans B2); clear A2 B2; refine Hid.out ?_)
        refine hid ?_
        go_wp2_with (go_at_call 57; refine Q2.out.mono ?_; rintro e w3 ⟨rfl, A3, B3⟩; have AA3 := hid A3; have BB3 := hid (BB2.out.trans B3); clear A3 B3)
        go_roundw
        case rel => exact ⟨k + 1, by omega, by go_num, AA3, BB3⟩
        case measure => simp [intOf]; omega
    · have hlt' : ¬ (k : Int) < (n : Int) := by omega
      have ek : k = n := by omega
      have Q := hid (FN.out wr (by rw [← ek]; exact hA.out))
      clear ek
      go_wp2_with (go_at_call 58; refine Q.out.mono ?_; rintro e w2 ⟨rfl, B2⟩; have BB2 := hid (hB.out.trans B2); clear B2)
      go_ret
      exact ⟨rfl, BB2.out⟩
end Go.Proofs.YtfeppannfcbakaaGreatDoor

namespace Go.Proofs.YtfeppannfcbakaaGreatDoor
open Go.RowKit
set_option linter.unusedVariables false
set_option maxRecDepth 100000

/-- A list of bytes that is read. -/
def BRd (w : World) (s : Value) (l : List UInt8) : Prop :=
  ∃ ao c, s = .slice ao l.length c ∧ l.length ≤ c ∧ (l = [] ∨ ∃ g o, ao = some ⟨g, o, none⟩ ∧ g < w.heap.size ∧ ∀ j b, l[j]? = some b → w.cell? ⟨g, o + j, none⟩ = some (.int .u8 (b.toNat : Int)))
theorem BRd.later {w w' : World} {s : Value} {l : List UInt8} (h : BRd w s l) (hb : Below w.heap.size w w') : BRd w' s l := by
  obtain ⟨ao, c, e, hc, hx⟩ := h
  refine ⟨ao, c, e, hc, hx.imp id ?_⟩
  rintro ⟨g, o, ea, hg, hcell⟩
  exact ⟨g, o, ea, Nat.lt_of_lt_of_le hg hb.size, fun j b hj => cell_under hb hg (hcell j b hj)⟩
theorem BRd.form {w : World} {s : Value} {l : List UInt8} (h : BRd w s l) : ∃ ao c, s = .slice ao l.length c := by obtain ⟨ao, c, e, _⟩ := h; exact ⟨ao, c, e⟩
theorem BRd.at {w : World} {ao : Option Addr} {n c : Nat} {l : List UInt8} (h : BRd w (.slice ao n c) l) {j : Nat} (hj : j < l.length) : ∃ g o b, ao = some ⟨g, o, none⟩ ∧ l[j]? = some b ∧ w.cell? ⟨g, o + j, none⟩ = some (.int .u8 (b.toNat : Int)) := by
  obtain ⟨a1, c1, e, hc, hx⟩ := h
  injection e with e1 e2 e3
  subst e1
  rcases hx with rfl | ⟨g, o, ea, hg, hcell⟩
  · simp at hj
  · exact ⟨g, o, l[j], ea, List.getElem?_eq_getElem hj, hcell j _ (List.getElem?_eq_getElem hj)⟩
/-- The digits of a byte, of bytes. -/
def hxD : List UInt8 := [48, 49, 50, 51, 52, 53, 54, 55, 56, 57, 97, 98, 99, 100, 101, 102]
def hexB (b : UInt8) : List UInt8 := [hxD.getD (b.toNat / 16) 0, hxD.getD (b.toNat % 16) 0]
def hexW (l : List UInt8) : List UInt8 := l.flatMap hexB
def flagW (b : Bool) : List UInt8 := if b then [102, 114, 101, 115, 104] else [111, 108, 100]
theorem flag_any (b : Bool) (w : World) : Calls Tryz.prog 86 #[.bool b] w fun e w' => e = .returned (.string ⟨(flagW b).toArray⟩) ∧ w' = w := by
  cases b
  all_goals
    go_enter Tryz.func86, Tryz.ntmps86
    go_wp2
    go_ret
    exact ⟨rfl, rfl⟩
theorem hexW_snoc {l : List UInt8} {j : Nat} {b : UInt8} (h : l[j]? = some b) : hexW (l.take (j + 1)) = hexW (l.take j) ++ [hxD.getD (b.toNat / 16) 0] ++ [hxD.getD (b.toNat % 16) 0] := by
  rw [List.take_add_one, h]; simp [hexW, hexB]
theorem hexW_len (l : List UInt8) : (hexW l).length = 2 * l.length := by
  induction l with
  | nil => rfl
  | cons b r ih =>
    have : hexW (b :: r) = hexB b ++ hexW r := rfl
    rw [this, List.length_append, ih, List.length_cons]
    show 2 + _ = _
    omega
theorem hx_at (i : Nat) (h : i < (ByteArray.mk #[48, 49, 50, 51, 52, 53, 54, 55, 56, 57, 97, 98, 99, 100, 101, 102]).size) : (ByteArray.mk #[48, 49, 50, 51, 52, 53, 54, 55, 56, 57, 97, 98, 99, 100, 101, 102])[i] = hxD.getD i 0 := by
  have h' : i < hxD.length := h
  rw [List.getD_eq_getElem?_getD, List.getElem?_eq_getElem h']
  rfl
set_option maxHeartbeats 1600000 in
set_option maxRecDepth 1000000 in
theorem dataWord_any {s : Value} {l : List UInt8} {w : World} (hs : BRd w s l) (hl : l.length ≤ 10000000) :
    Calls Tryz.prog 87 #[s] w fun e w' => e = .returned (.string ⟨(hexW l).toArray⟩) ∧ Below w.heap.size w w' := by
  obtain ⟨ao, c, rfl⟩ := hs.form
  have HS := hid hs
  have b0 : Hid (Bd w.heap.size (hexW (l.take 0)) (w.alloc (.cells #[.pointer none, .slice none 0 0] 106))) := hid (Or.inl ⟨Nat.le_refl _, .slice none 0 0, heap_alloc_new w _, by simpa [hexW, cellsB] using World.ownsRow_nil _ _ 5 1, by simp [Value.ownBlock]⟩)
  have bel0 : Hid (Below w.heap.size w (w.alloc (.cells #[.pointer none, .slice none 0 0] 106))) := hid (ba w _)
  have FN : Hid (∀ W, Bd w.heap.size (hexW (l.take l.length)) W → Calls Tryz.prog 58 #[ptr w.heap.size] W fun e w' => e = .returned (.string ⟨(hexW l).toArray⟩) ∧ Below w.heap.size W w') := hid (fun W hb => by
    rw [List.take_length] at hb
    exact String_any hb)
  have HL := hid hl
  clear hs
  generalize hJ : ByteArray.mk (hexW l).toArray = J at *
  clear hJ
  generalize hnw : l.length = n at *
  have HN := hid hnw
  clear hnw
  go_enter Tryz.func87, Tryz.ntmps87
  go_wp2
  go_loopw [8] (fun iv wr => ∃ k : Nat, k ≤ n ∧ iv = .int .i64 (k : Int) ∧ Hid (Bd w.heap.size (hexW (l.take k)) wr) ∧ Hid (Below w.heap.size w wr)) (fun iv _ => n - (intOf iv).toNat)
  case atStart => exact ⟨0, by omega, rfl, b0, bel0⟩
  case round =>
    obtain ⟨k, hk, rfl, hA, hB⟩ := hrel
    clear b0 bel0
    by_cases hlt : k < n
    · obtain ⟨g, o, b, rfl, hb, hcb⟩ := (HS.out.later hB.out).at (j := k) (by rw [HN.out]; exact hlt)
      have hlt' : (k : Int) < (n : Int) := by omega
      have hb8 := b.toNat_lt
      have LN : Hid ((hexW (l.take k)).length + 2 ≤ 140737488355328) := hid (by rw [hexW_len, List.length_take]; have := HL.out; omega)
      have NX := hid (hexW_snoc hb)
      clear hb
      go_wp2_with (first | (go_at_call 56; refine (WriteByte_any hA.out (by have := LN.out; omega)).mono ?_; rintro e w1 ⟨rfl, hA1, hB1⟩; have A1 := hid hA1; have B1 := hid (hB.out.trans hB1); clear hA1 hB1 hA) | (go_at_call 56; refine (WriteByte_any A1.out (by have := LN.out; simp; omega)).mono ?_; rintro e w2 ⟨rfl, hA2, hB2⟩; have A2 := hid hA2; have B2 := hid (B1.out.trans hB2); clear hA2 hB2))
      go_roundw
      case rel => exact ⟨k + 1, by omega, by go_num, hid (by rw [NX.out, ← hx_at _ (by show _ < 16; omega), ← hx_at _ (by show _ < 16; omega)]; exact A2.out), B2⟩
      case measure => simp [intOf]; omega
    · have hlt' : ¬ (k : Int) < (n : Int) := by omega
      have ek : k = n := by omega
      have AN : Hid (Bd w.heap.size (hexW (l.take n)) wr) := hid (by rw [← ek]; exact hA.out)
      clear ek hA
      go_wp2_with (go_at_call 58; refine (FN.out _ AN.out).mono ?_; rintro e w2 ⟨rfl, hB2⟩; have B2 := hid (hB.out.trans hB2); clear hB2)
      go_ret
      exact ⟨rfl, B2.out⟩
end Go.Proofs.YtfeppannfcbakaaGreatDoor

namespace Go.Proofs.YtfeppannfcbakaaGreatDoor
set_option linter.unusedVariables false

def formN : List Int := [0, 0, 0, 0, 0, 0, 0, 0, 1, 16, 0, 0, 0, 0, 0, 0, 1, 16, 0, 0, 0, 0, 0, 0, 1, 16, 0, 64, 0, 0, 0, 0, 1, 16, 0, 0, 0, 1099511627776, 0, 0, 1, 16, 1, 16, 0, 0, 0, 0, 1, 16, 0, 0, 0, 1099511627776, 1, 8, 1, 16, 0, 0, 0, 0, 0, 0, 0, 0, 0, 0, 0, 0, 0, 0]
def wfN : List (List UInt8 × List UInt8) := [([], []), ([109, 97, 107, 101], [78]), ([100, 114, 111, 112], [78]), ([112, 117, 115, 104], [78, 84]), ([116, 114, 105, 109], [78, 75]), ([116, 97, 107, 101], [78, 84]), ([114, 101, 97, 100], [78, 75, 77]), ([99, 111, 117, 110, 116], [78]), ([108, 105, 115, 116], [])]
end Go.Proofs.YtfeppannfcbakaaGreatDoor

namespace Go.Proofs.YtfeppannfcbakaaGreatDoor
open Go.RowKit
set_option linter.unusedVariables false

/-- The table of forms, as the program's text lays it. -/
structure Tab (w : World) : Prop where
  lt : 4 < w.heap.size
  cell : ∀ i, i < 72 → w.cell? ⟨4, i, none⟩ = some (.int .i64 (formN.getD i 0))

theorem Tab.below {w w' : World} (h : Tab w) (hb : Below w.heap.size w w') : Tab w' :=
  ⟨Nat.lt_of_lt_of_le h.lt hb.size, fun i hi => cell_under hb h.lt (h.cell i hi)⟩
theorem Tab.fr {F : List Nat} {w w' : World} (h : Tab w) (hb : Fr F w w') (hF : 4 ∉ F) : Tab w' :=
  ⟨Nat.lt_of_lt_of_le h.lt hb.size, fun i hi => by have := h.cell i hi; simp only [World.cell?, hb.block 4 h.lt hF] at this ⊢; exact this⟩

abbrev spanV (a b : Int) : Value := .agg #[.int .i64 a, .int .i64 b]
def hs (b : Int) : Bool := decide (0 < b)
def hl (a b n : Int) : Bool := decide (a ≤ n) && decide (n ≤ b)
def wr (a b n : Int) : Bool := hs b && !hl a b n
def ex (b n : Int) : Bool := !hs b && decide (n ≠ 0)

theorem has_any {w : World} (a b : Int) : Calls Tryz.prog 166 #[spanV a b] w fun e w' => e = .returned (.bool (hs b)) ∧ Below w.heap.size w w' := by
  go_enter Tryz.func166, Tryz.ntmps166
  go_wp2
  go_ret
  exact ⟨rfl, ba _ _⟩

theorem holds_any {w : World} (a b n : Int) : Calls Tryz.prog 167 #[spanV a b, .int .i64 n] w fun e w' => e = .returned (.bool (hl a b n)) ∧ Below w.heap.size w w' := by
  by_cases h : a ≤ n
  · have e1 : decide (a ≤ n) = true := by simpa using h
    go_enter Tryz.func167, Tryz.ntmps167
    go_wp2
    go_ret
    exact ⟨by simp [hl, h], ba _ _⟩
  · have e1 : decide (a ≤ n) = false := by simpa using h
    go_enter Tryz.func167, Tryz.ntmps167
    go_wp2
    go_ret
    exact ⟨by simp [hl, e1], ba _ _⟩

theorem has_b {w : World} (a b : Int) : Calls Tryz.prog 166 #[spanV a b] w fun e w' => ∃ x, Hid (hs b = x) ∧ e = .returned (.bool x) ∧ Hid (Below w.heap.size w w') :=
  (has_any a b).mono fun e w' ⟨h, h'⟩ => ⟨_, hid rfl, h, h'⟩
theorem holds_b {w : World} (a b n : Int) : Calls Tryz.prog 167 #[spanV a b, .int .i64 n] w fun e w' => ∃ x, Hid (hl a b n = x) ∧ e = .returned (.bool x) ∧ Hid (Below w.heap.size w w') :=
  (holds_any a b n).mono fun e w' ⟨h, h'⟩ => ⟨_, hid rfl, h, h'⟩

theorem b2 {w w1 w2 : World} (h : Below w.heap.size w w1) (k : Below w1.heap.size w1 w2) : Below w.heap.size w w2 := h.trans (k.mono h.size)
end Go.Proofs.YtfeppannfcbakaaGreatDoor

namespace Go.Proofs.YtfeppannfcbakaaGreatDoor
open Go.RowKit
set_option linter.unusedVariables false

set_option maxRecDepth 1000000 in
theorem wrong_any {w : World} (a b n : Int) : Calls Tryz.prog 145 #[spanV a b, .int .i64 n] w fun e w' => e = .returned (.bool (wr a b n)) ∧ Below w.heap.size w w' := by
  go_enter Tryz.func145, Tryz.ntmps145
  go_wp2_with fail
  refine (has_b a b).mono ?_
  rintro e w1 ⟨x, H0, rfl, B1⟩
  have hh := heap_alloc_new w (.cells #[.int .i64 a, .int .i64 b] 196)
  have hh1 : w1.heap[w.heap.size]? = some (.cells #[.int .i64 a, .int .i64 b] 196) := by rw [B1.out.block _ (by simp)]; exact hh
  have c0 : w1.cell? ⟨w.heap.size, 0, none⟩ = some (.int .i64 a) := by rw [cell_at hh1]; rfl
  have c1 : w1.cell? ⟨w.heap.size, 1, none⟩ = some (.int .i64 b) := by rw [cell_at hh1]; rfl
  clear hh hh1
  have B2 := hid (b2 (ba w _) B1.out)
  clear B1
  cases x with
  | false =>
    go_wp2
    go_ret
    exact ⟨by simp [wr, H0.out], B2.out⟩
  | true =>
    go_wp2_with fail
    refine (holds_b a b n).mono ?_
    rintro e w2 ⟨x, H1, rfl, B3⟩
    have B4 := hid (b2 B2.out B3.out)
    clear B2 B3
    go_wp2
    go_ret
    exact ⟨by simp [wr, H0.out, H1.out], B4.out⟩

set_option maxRecDepth 1000000 in
theorem extra_any {w : World} (a b n : Int) : Calls Tryz.prog 146 #[spanV a b, .int .i64 n] w fun e w' => e = .returned (.bool (ex b n)) ∧ Below w.heap.size w w' := by
  go_enter Tryz.func146, Tryz.ntmps146
  go_wp2_with fail
  refine (has_b a b).mono ?_
  rintro e w1 ⟨x, H0, rfl, B1⟩
  have B2 := hid (b2 (ba w _) B1.out)
  clear B1
  cases x with
  | true =>
    go_wp2
    go_ret
    exact ⟨by simp [ex, H0.out], B2.out⟩
  | false =>
    go_wp2
    go_ret
    exact ⟨by simp [ex, H0.out, bne, BEq.beq], B2.out⟩

theorem wrong_b {w : World} (a b n : Int) : Calls Tryz.prog 145 #[spanV a b, .int .i64 n] w fun e w' => ∃ x, Hid (wr a b n = x) ∧ e = .returned (.bool x) ∧ Hid (Below w.heap.size w w') :=
  (wrong_any a b n).mono fun e w' ⟨h, h'⟩ => ⟨_, hid rfl, h, h'⟩
theorem extra_b {w : World} (a b n : Int) : Calls Tryz.prog 146 #[spanV a b, .int .i64 n] w fun e w' => ∃ x, Hid (ex b n = x) ∧ e = .returned (.bool x) ∧ Hid (Below w.heap.size w w') :=
  (extra_any a b n).mono fun e w' ⟨h, h'⟩ => ⟨_, hid rfl, h, h'⟩
end Go.Proofs.YtfeppannfcbakaaGreatDoor

namespace Go.Proofs.YtfeppannfcbakaaGreatDoor
open Go.RowKit
set_option linter.unusedVariables false

abbrev opV (k : Int) (nm tx : ByteArray) (n m : Int) : Value := .agg #[.int .i64 k, .string nm, .string tx, .int .i64 n, .int .i64 m]
abbrev opB (k : Int) (nm tx : ByteArray) (n m : Int) : Obj := .cells #[.int .i64 k, .string nm, .string tx, .int .i64 n, .int .i64 m] 178

/-- What Check tells of an op whose kind may be, by the row of its kind. -/
def chkR (a0 a1 a2 a3 a4 a5 a6 a7 : Int) (s t n m : Int) : Int :=
  if wr a0 a1 s then 51 else if wr a2 a3 t then 52 else if wr a4 a5 n then 53 else if wr a6 a7 m then 54
  else if ex a1 s then 55 else if ex a3 t then 55 else if ex a5 n then 55 else if ex a7 m then 55 else 0

/-- The op and the row of its kind lie in two blocks of their own. -/
structure Two (w w1 : World) (o f : Obj) : Prop where
  op : w1.heap[w.heap.size]? = some o
  row : w1.heap[w.heap.size + 1]? = some f
  lt : w.heap.size + 1 < w1.heap.size
  below : Below w.heap.size w w1

theorem Two.first (w : World) (o f : Obj) : Two w ((w.alloc o).alloc f) o f := by
  have h1 := heap_alloc_new w o
  have h2 := heap_alloc_new (w.alloc o) f
  have hs : (w.alloc o).heap.size = w.heap.size + 1 := by simp
  rw [hs] at h2
  refine ⟨?_, h2, by simp, b2 (ba w o) (ba _ f)⟩
  rw [(ba (w.alloc o) f).block _ (by simp)]; exact h1
theorem Two.next {w w1 w2 : World} {o f : Obj} (h : Two w w1 o f) (hb : Below w1.heap.size w1 w2) : Two w w2 o f :=
  ⟨by rw [hb.block _ (Nat.lt_of_succ_lt h.lt)]; exact h.op, by rw [hb.block _ h.lt]; exact h.row, Nat.lt_of_lt_of_le h.lt hb.size, b2 h.below hb⟩

set_option maxHeartbeats 3200000 in
set_option maxRecDepth 1000000 in
theorem check_row {w : World} (k : Nat) (hk1 : 1 ≤ k) (hk8 : k ≤ 8) (nm tx : ByteArray) (n m : Int) (a0 a1 a2 a3 a4 a5 a6 a7 : Int)
    (c0 : w.cell? ⟨4, k * 8, none⟩ = some (.int .i64 a0))
    (c1 : w.cell? ⟨4, k * 8 + 1, none⟩ = some (.int .i64 a1))
    (c2 : w.cell? ⟨4, k * 8 + 2, none⟩ = some (.int .i64 a2))
    (c3 : w.cell? ⟨4, k * 8 + 3, none⟩ = some (.int .i64 a3))
    (c4 : w.cell? ⟨4, k * 8 + 4, none⟩ = some (.int .i64 a4))
    (c5 : w.cell? ⟨4, k * 8 + 5, none⟩ = some (.int .i64 a5))
    (c6 : w.cell? ⟨4, k * 8 + 6, none⟩ = some (.int .i64 a6))
    (c7 : w.cell? ⟨4, k * 8 + 7, none⟩ = some (.int .i64 a7))
    (h0 : 4 < w.heap.size) :
    Calls Tryz.prog 118 #[opV k nm tx n m] w fun e w' => e = .returned (.int .i64 (chkR a0 a1 a2 a3 a4 a5 a6 a7 nm.size tx.size n m)) ∧ Below w.heap.size w w' := by
  have A0 := fun o => cell_under (ba w o) h0 c0
  have A1 := fun o => cell_under (ba w o) h0 c1
  have A2 := fun o => cell_under (ba w o) h0 c2
  have A3 := fun o => cell_under (ba w o) h0 c3
  have A4 := fun o => cell_under (ba w o) h0 c4
  have A5 := fun o => cell_under (ba w o) h0 c5
  have A6 := fun o => cell_under (ba w o) h0 c6
  have A7 := fun o => cell_under (ba w o) h0 c7
  clear c0 c1 c2 c3 c4 c5 c6 c7 h0
  go_enter Tryz.func118, Tryz.ntmps118
  go_wp2_with fail
  refine (wrong_b _ _ _).mono ?_
  rintro e w1 ⟨x, H0, rfl, B⟩
  have T := hid ((Two.first w _ _).next B.out)
  clear B A0 A1 A2 A3 A4 A5 A6 A7
  have o1 : w1.cell? ⟨w.heap.size, 1, none⟩ = some ((.string nm)) := by rw [cell_at T.out.op]; rfl
  have o2 : w1.cell? ⟨w.heap.size, 2, none⟩ = some ((.string tx)) := by rw [cell_at T.out.op]; rfl
  have o3 : w1.cell? ⟨w.heap.size, 3, none⟩ = some ((.int .i64 n)) := by rw [cell_at T.out.op]; rfl
  have o4 : w1.cell? ⟨w.heap.size, 4, none⟩ = some ((.int .i64 m)) := by rw [cell_at T.out.op]; rfl
  have r0 : w1.cell? ⟨w.heap.size + 1, 0, none⟩ = some (.int .i64 a0) := by rw [cell_at T.out.row]; rfl
  have r1 : w1.cell? ⟨w.heap.size + 1, 1, none⟩ = some (.int .i64 a1) := by rw [cell_at T.out.row]; rfl
  have r2 : w1.cell? ⟨w.heap.size + 1, 2, none⟩ = some (.int .i64 a2) := by rw [cell_at T.out.row]; rfl
  have r3 : w1.cell? ⟨w.heap.size + 1, 3, none⟩ = some (.int .i64 a3) := by rw [cell_at T.out.row]; rfl
  have r4 : w1.cell? ⟨w.heap.size + 1, 4, none⟩ = some (.int .i64 a4) := by rw [cell_at T.out.row]; rfl
  have r5 : w1.cell? ⟨w.heap.size + 1, 5, none⟩ = some (.int .i64 a5) := by rw [cell_at T.out.row]; rfl
  have r6 : w1.cell? ⟨w.heap.size + 1, 6, none⟩ = some (.int .i64 a6) := by rw [cell_at T.out.row]; rfl
  have r7 : w1.cell? ⟨w.heap.size + 1, 7, none⟩ = some (.int .i64 a7) := by rw [cell_at T.out.row]; rfl
  cases x with
  | true =>
    go_wp2
    go_ret
    exact ⟨by simp [chkR, H0.out], T.out.below⟩
  | false =>
    go_wp2_with fail
    refine (wrong_b _ _ _).mono ?_
    rintro e w2 ⟨x, H1, rfl, B⟩
    have T := hid (T.out.next B.out)
    clear B o1 o2 o3 o4 r0 r1 r2 r3 r4 r5 r6 r7
    have o1 : w2.cell? ⟨w.heap.size, 1, none⟩ = some ((.string nm)) := by rw [cell_at T.out.op]; rfl
    have o2 : w2.cell? ⟨w.heap.size, 2, none⟩ = some ((.string tx)) := by rw [cell_at T.out.op]; rfl
    have o3 : w2.cell? ⟨w.heap.size, 3, none⟩ = some ((.int .i64 n)) := by rw [cell_at T.out.op]; rfl
    have o4 : w2.cell? ⟨w.heap.size, 4, none⟩ = some ((.int .i64 m)) := by rw [cell_at T.out.op]; rfl
    have r0 : w2.cell? ⟨w.heap.size + 1, 0, none⟩ = some (.int .i64 a0) := by rw [cell_at T.out.row]; rfl
    have r1 : w2.cell? ⟨w.heap.size + 1, 1, none⟩ = some (.int .i64 a1) := by rw [cell_at T.out.row]; rfl
    have r2 : w2.cell? ⟨w.heap.size + 1, 2, none⟩ = some (.int .i64 a2) := by rw [cell_at T.out.row]; rfl
    have r3 : w2.cell? ⟨w.heap.size + 1, 3, none⟩ = some (.int .i64 a3) := by rw [cell_at T.out.row]; rfl
    have r4 : w2.cell? ⟨w.heap.size + 1, 4, none⟩ = some (.int .i64 a4) := by rw [cell_at T.out.row]; rfl
    have r5 : w2.cell? ⟨w.heap.size + 1, 5, none⟩ = some (.int .i64 a5) := by rw [cell_at T.out.row]; rfl
    have r6 : w2.cell? ⟨w.heap.size + 1, 6, none⟩ = some (.int .i64 a6) := by rw [cell_at T.out.row]; rfl
    have r7 : w2.cell? ⟨w.heap.size + 1, 7, none⟩ = some (.int .i64 a7) := by rw [cell_at T.out.row]; rfl
    cases x with
    | true =>
      go_wp2
      go_ret
      exact ⟨by simp [chkR, H0.out, H1.out], T.out.below⟩
    | false =>
      go_wp2_with fail
      refine (wrong_b _ _ _).mono ?_
      rintro e w3 ⟨x, H2, rfl, B⟩
      have T := hid (T.out.next B.out)
      clear B o1 o2 o3 o4 r0 r1 r2 r3 r4 r5 r6 r7
      have o1 : w3.cell? ⟨w.heap.size, 1, none⟩ = some ((.string nm)) := by rw [cell_at T.out.op]; rfl
      have o2 : w3.cell? ⟨w.heap.size, 2, none⟩ = some ((.string tx)) := by rw [cell_at T.out.op]; rfl
      have o3 : w3.cell? ⟨w.heap.size, 3, none⟩ = some ((.int .i64 n)) := by rw [cell_at T.out.op]; rfl
      have o4 : w3.cell? ⟨w.heap.size, 4, none⟩ = some ((.int .i64 m)) := by rw [cell_at T.out.op]; rfl
      have r0 : w3.cell? ⟨w.heap.size + 1, 0, none⟩ = some (.int .i64 a0) := by rw [cell_at T.out.row]; rfl
      have r1 : w3.cell? ⟨w.heap.size + 1, 1, none⟩ = some (.int .i64 a1) := by rw [cell_at T.out.row]; rfl
      have r2 : w3.cell? ⟨w.heap.size + 1, 2, none⟩ = some (.int .i64 a2) := by rw [cell_at T.out.row]; rfl
      have r3 : w3.cell? ⟨w.heap.size + 1, 3, none⟩ = some (.int .i64 a3) := by rw [cell_at T.out.row]; rfl
      have r4 : w3.cell? ⟨w.heap.size + 1, 4, none⟩ = some (.int .i64 a4) := by rw [cell_at T.out.row]; rfl
      have r5 : w3.cell? ⟨w.heap.size + 1, 5, none⟩ = some (.int .i64 a5) := by rw [cell_at T.out.row]; rfl
      have r6 : w3.cell? ⟨w.heap.size + 1, 6, none⟩ = some (.int .i64 a6) := by rw [cell_at T.out.row]; rfl
      have r7 : w3.cell? ⟨w.heap.size + 1, 7, none⟩ = some (.int .i64 a7) := by rw [cell_at T.out.row]; rfl
      cases x with
      | true =>
        go_wp2
        go_ret
        exact ⟨by simp [chkR, H0.out, H1.out, H2.out], T.out.below⟩
      | false =>
        go_wp2_with fail
        refine (wrong_b _ _ _).mono ?_
        rintro e w4 ⟨x, H3, rfl, B⟩
        have T := hid (T.out.next B.out)
        clear B o1 o2 o3 o4 r0 r1 r2 r3 r4 r5 r6 r7
        have o1 : w4.cell? ⟨w.heap.size, 1, none⟩ = some ((.string nm)) := by rw [cell_at T.out.op]; rfl
        have o2 : w4.cell? ⟨w.heap.size, 2, none⟩ = some ((.string tx)) := by rw [cell_at T.out.op]; rfl
        have o3 : w4.cell? ⟨w.heap.size, 3, none⟩ = some ((.int .i64 n)) := by rw [cell_at T.out.op]; rfl
        have o4 : w4.cell? ⟨w.heap.size, 4, none⟩ = some ((.int .i64 m)) := by rw [cell_at T.out.op]; rfl
        have r0 : w4.cell? ⟨w.heap.size + 1, 0, none⟩ = some (.int .i64 a0) := by rw [cell_at T.out.row]; rfl
        have r1 : w4.cell? ⟨w.heap.size + 1, 1, none⟩ = some (.int .i64 a1) := by rw [cell_at T.out.row]; rfl
        have r2 : w4.cell? ⟨w.heap.size + 1, 2, none⟩ = some (.int .i64 a2) := by rw [cell_at T.out.row]; rfl
        have r3 : w4.cell? ⟨w.heap.size + 1, 3, none⟩ = some (.int .i64 a3) := by rw [cell_at T.out.row]; rfl
        have r4 : w4.cell? ⟨w.heap.size + 1, 4, none⟩ = some (.int .i64 a4) := by rw [cell_at T.out.row]; rfl
        have r5 : w4.cell? ⟨w.heap.size + 1, 5, none⟩ = some (.int .i64 a5) := by rw [cell_at T.out.row]; rfl
        have r6 : w4.cell? ⟨w.heap.size + 1, 6, none⟩ = some (.int .i64 a6) := by rw [cell_at T.out.row]; rfl
        have r7 : w4.cell? ⟨w.heap.size + 1, 7, none⟩ = some (.int .i64 a7) := by rw [cell_at T.out.row]; rfl
        cases x with
        | true =>
          go_wp2
          go_ret
          exact ⟨by simp [chkR, H0.out, H1.out, H2.out, H3.out], T.out.below⟩
        | false =>
          go_wp2_with fail
          refine (extra_b _ _ _).mono ?_
          rintro e w5 ⟨x, H4, rfl, B⟩
          have T := hid (T.out.next B.out)
          clear B o1 o2 o3 o4 r0 r1 r2 r3 r4 r5 r6 r7
          have o1 : w5.cell? ⟨w.heap.size, 1, none⟩ = some ((.string nm)) := by rw [cell_at T.out.op]; rfl
          have o2 : w5.cell? ⟨w.heap.size, 2, none⟩ = some ((.string tx)) := by rw [cell_at T.out.op]; rfl
          have o3 : w5.cell? ⟨w.heap.size, 3, none⟩ = some ((.int .i64 n)) := by rw [cell_at T.out.op]; rfl
          have o4 : w5.cell? ⟨w.heap.size, 4, none⟩ = some ((.int .i64 m)) := by rw [cell_at T.out.op]; rfl
          have r0 : w5.cell? ⟨w.heap.size + 1, 0, none⟩ = some (.int .i64 a0) := by rw [cell_at T.out.row]; rfl
          have r1 : w5.cell? ⟨w.heap.size + 1, 1, none⟩ = some (.int .i64 a1) := by rw [cell_at T.out.row]; rfl
          have r2 : w5.cell? ⟨w.heap.size + 1, 2, none⟩ = some (.int .i64 a2) := by rw [cell_at T.out.row]; rfl
          have r3 : w5.cell? ⟨w.heap.size + 1, 3, none⟩ = some (.int .i64 a3) := by rw [cell_at T.out.row]; rfl
          have r4 : w5.cell? ⟨w.heap.size + 1, 4, none⟩ = some (.int .i64 a4) := by rw [cell_at T.out.row]; rfl
          have r5 : w5.cell? ⟨w.heap.size + 1, 5, none⟩ = some (.int .i64 a5) := by rw [cell_at T.out.row]; rfl
          have r6 : w5.cell? ⟨w.heap.size + 1, 6, none⟩ = some (.int .i64 a6) := by rw [cell_at T.out.row]; rfl
          have r7 : w5.cell? ⟨w.heap.size + 1, 7, none⟩ = some (.int .i64 a7) := by rw [cell_at T.out.row]; rfl
          cases x with
          | true =>
            go_wp2
            go_ret
            exact ⟨by simp [chkR, H0.out, H1.out, H2.out, H3.out, H4.out], T.out.below⟩
          | false =>
            go_wp2_with fail
            refine (extra_b _ _ _).mono ?_
            rintro e w6 ⟨x, H5, rfl, B⟩
            have T := hid (T.out.next B.out)
            clear B o1 o2 o3 o4 r0 r1 r2 r3 r4 r5 r6 r7
            have o1 : w6.cell? ⟨w.heap.size, 1, none⟩ = some ((.string nm)) := by rw [cell_at T.out.op]; rfl
            have o2 : w6.cell? ⟨w.heap.size, 2, none⟩ = some ((.string tx)) := by rw [cell_at T.out.op]; rfl
            have o3 : w6.cell? ⟨w.heap.size, 3, none⟩ = some ((.int .i64 n)) := by rw [cell_at T.out.op]; rfl
            have o4 : w6.cell? ⟨w.heap.size, 4, none⟩ = some ((.int .i64 m)) := by rw [cell_at T.out.op]; rfl
            have r0 : w6.cell? ⟨w.heap.size + 1, 0, none⟩ = some (.int .i64 a0) := by rw [cell_at T.out.row]; rfl
            have r1 : w6.cell? ⟨w.heap.size + 1, 1, none⟩ = some (.int .i64 a1) := by rw [cell_at T.out.row]; rfl
            have r2 : w6.cell? ⟨w.heap.size + 1, 2, none⟩ = some (.int .i64 a2) := by rw [cell_at T.out.row]; rfl
            have r3 : w6.cell? ⟨w.heap.size + 1, 3, none⟩ = some (.int .i64 a3) := by rw [cell_at T.out.row]; rfl
            have r4 : w6.cell? ⟨w.heap.size + 1, 4, none⟩ = some (.int .i64 a4) := by rw [cell_at T.out.row]; rfl
            have r5 : w6.cell? ⟨w.heap.size + 1, 5, none⟩ = some (.int .i64 a5) := by rw [cell_at T.out.row]; rfl
            have r6 : w6.cell? ⟨w.heap.size + 1, 6, none⟩ = some (.int .i64 a6) := by rw [cell_at T.out.row]; rfl
            have r7 : w6.cell? ⟨w.heap.size + 1, 7, none⟩ = some (.int .i64 a7) := by rw [cell_at T.out.row]; rfl
            cases x with
            | true =>
              go_wp2
              go_ret
              exact ⟨by simp [chkR, H0.out, H1.out, H2.out, H3.out, H4.out, H5.out], T.out.below⟩
            | false =>
              go_wp2_with fail
              refine (extra_b _ _ _).mono ?_
              rintro e w7 ⟨x, H6, rfl, B⟩
              have T := hid (T.out.next B.out)
              clear B o1 o2 o3 o4 r0 r1 r2 r3 r4 r5 r6 r7
              have o1 : w7.cell? ⟨w.heap.size, 1, none⟩ = some ((.string nm)) := by rw [cell_at T.out.op]; rfl
              have o2 : w7.cell? ⟨w.heap.size, 2, none⟩ = some ((.string tx)) := by rw [cell_at T.out.op]; rfl
              have o3 : w7.cell? ⟨w.heap.size, 3, none⟩ = some ((.int .i64 n)) := by rw [cell_at T.out.op]; rfl
              have o4 : w7.cell? ⟨w.heap.size, 4, none⟩ = some ((.int .i64 m)) := by rw [cell_at T.out.op]; rfl
              have r0 : w7.cell? ⟨w.heap.size + 1, 0, none⟩ = some (.int .i64 a0) := by rw [cell_at T.out.row]; rfl
              have r1 : w7.cell? ⟨w.heap.size + 1, 1, none⟩ = some (.int .i64 a1) := by rw [cell_at T.out.row]; rfl
              have r2 : w7.cell? ⟨w.heap.size + 1, 2, none⟩ = some (.int .i64 a2) := by rw [cell_at T.out.row]; rfl
              have r3 : w7.cell? ⟨w.heap.size + 1, 3, none⟩ = some (.int .i64 a3) := by rw [cell_at T.out.row]; rfl
              have r4 : w7.cell? ⟨w.heap.size + 1, 4, none⟩ = some (.int .i64 a4) := by rw [cell_at T.out.row]; rfl
              have r5 : w7.cell? ⟨w.heap.size + 1, 5, none⟩ = some (.int .i64 a5) := by rw [cell_at T.out.row]; rfl
              have r6 : w7.cell? ⟨w.heap.size + 1, 6, none⟩ = some (.int .i64 a6) := by rw [cell_at T.out.row]; rfl
              have r7 : w7.cell? ⟨w.heap.size + 1, 7, none⟩ = some (.int .i64 a7) := by rw [cell_at T.out.row]; rfl
              cases x with
              | true =>
                go_wp2
                go_ret
                exact ⟨by simp [chkR, H0.out, H1.out, H2.out, H3.out, H4.out, H5.out, H6.out], T.out.below⟩
              | false =>
                go_wp2_with fail
                refine (extra_b _ _ _).mono ?_
                rintro e w8 ⟨x, H7, rfl, B⟩
                have T := hid (T.out.next B.out)
                clear B o1 o2 o3 o4 r0 r1 r2 r3 r4 r5 r6 r7
                have o1 : w8.cell? ⟨w.heap.size, 1, none⟩ = some ((.string nm)) := by rw [cell_at T.out.op]; rfl
                have o2 : w8.cell? ⟨w.heap.size, 2, none⟩ = some ((.string tx)) := by rw [cell_at T.out.op]; rfl
                have o3 : w8.cell? ⟨w.heap.size, 3, none⟩ = some ((.int .i64 n)) := by rw [cell_at T.out.op]; rfl
                have o4 : w8.cell? ⟨w.heap.size, 4, none⟩ = some ((.int .i64 m)) := by rw [cell_at T.out.op]; rfl
                have r0 : w8.cell? ⟨w.heap.size + 1, 0, none⟩ = some (.int .i64 a0) := by rw [cell_at T.out.row]; rfl
                have r1 : w8.cell? ⟨w.heap.size + 1, 1, none⟩ = some (.int .i64 a1) := by rw [cell_at T.out.row]; rfl
                have r2 : w8.cell? ⟨w.heap.size + 1, 2, none⟩ = some (.int .i64 a2) := by rw [cell_at T.out.row]; rfl
                have r3 : w8.cell? ⟨w.heap.size + 1, 3, none⟩ = some (.int .i64 a3) := by rw [cell_at T.out.row]; rfl
                have r4 : w8.cell? ⟨w.heap.size + 1, 4, none⟩ = some (.int .i64 a4) := by rw [cell_at T.out.row]; rfl
                have r5 : w8.cell? ⟨w.heap.size + 1, 5, none⟩ = some (.int .i64 a5) := by rw [cell_at T.out.row]; rfl
                have r6 : w8.cell? ⟨w.heap.size + 1, 6, none⟩ = some (.int .i64 a6) := by rw [cell_at T.out.row]; rfl
                have r7 : w8.cell? ⟨w.heap.size + 1, 7, none⟩ = some (.int .i64 a7) := by rw [cell_at T.out.row]; rfl
                cases x with
                | true =>
                  go_wp2
                  go_ret
                  exact ⟨by simp [chkR, H0.out, H1.out, H2.out, H3.out, H4.out, H5.out, H6.out, H7.out], T.out.below⟩
                | false =>
                  go_wp2
                  go_ret
                  exact ⟨by simp [chkR, H0.out, H1.out, H2.out, H3.out, H4.out, H5.out, H6.out, H7.out], T.out.below⟩
end Go.Proofs.YtfeppannfcbakaaGreatDoor

namespace Go.Proofs.YtfeppannfcbakaaGreatDoor
open Go.RowKit
set_option linter.unusedVariables false

theorem mem2 {c d : Comp} {cs : List Comp} : d ∈ c :: d :: cs := List.mem_cons_of_mem _ List.mem_cons_self

theorem mem3 {a b c : Comp} {cs : List Comp} : c ∈ a :: b :: c :: cs := List.mem_cons_of_mem _ mem2
theorem str_len (nm : ByteArray) : nm.data.toList.length = nm.size := Array.length_toList
/-- What Check tells of a kind that may be. -/
def chkT (k : Nat) (s t n m : Int) : Int := chkR (formN.getD (k * 8) 0) (formN.getD (k * 8 + 1) 0) (formN.getD (k * 8 + 2) 0) (formN.getD (k * 8 + 3) 0) (formN.getD (k * 8 + 4) 0) (formN.getD (k * 8 + 5) 0) (formN.getD (k * 8 + 6) 0) (formN.getD (k * 8 + 7) 0) s t n m

theorem check_tab {w : World} (h : Tab w) (k : Nat) (h1 : 1 ≤ k) (h8 : k ≤ 8) (nm tx : ByteArray) (n m : Int) : Calls Tryz.prog 118 #[opV k nm tx n m] w fun e w' => e = .returned (.int .i64 (chkT k nm.size tx.size n m)) ∧ Below w.heap.size w w' :=
  check_row k h1 h8 nm tx n m _ _ _ _ _ _ _ _ (h.cell _ (by omega)) (h.cell _ (by omega)) (h.cell _ (by omega)) (h.cell _ (by omega)) (h.cell _ (by omega)) (h.cell _ (by omega)) (h.cell _ (by omega)) (h.cell _ (by omega)) h.lt

/-- What Check tells, of any op. -/
def chkA (k : Int) (s t n m : Int) : Int := if k < 1 ∨ 8 < k then 50 else chkT k.toNat s t n m
theorem chkA_in {k : Int} (h1 : 1 ≤ k) (h8 : k ≤ 8) (s t n m : Int) : chkA k s t n m = chkT k.toNat s t n m := by unfold chkA; rw [if_neg (by omega)]
theorem chkA_out {k : Int} (h : k < 1 ∨ 8 < k) (s t n m : Int) : chkA k s t n m = 50 := by unfold chkA; rw [if_pos h]

set_option maxRecDepth 1000000 in
theorem check_out {w : World} {k : Int} (h : k < 1 ∨ 8 < k) (nm tx : ByteArray) (n m : Int) : Calls Tryz.prog 118 #[opV k nm tx n m] w fun e w' => e = .returned (.int .i64 50) ∧ Below w.heap.size w w' := by
  by_cases h1 : k < 1
  · have e1 : decide (k < 1) = true := by simpa using h1
    clear h
    go_enter Tryz.func118, Tryz.ntmps118
    go_wp2
    go_ret
    exact ⟨rfl, ba _ _⟩
  · have e1 : decide (k < 1) = false := by simpa using h1
    have e2 : decide (8 < k) = true := by simp; omega
    clear h
    go_enter Tryz.func118, Tryz.ntmps118
    go_wp2
    go_ret
    exact ⟨rfl, ba _ _⟩
theorem check_any {w : World} (hT : Tab w) (k : Int) (nm tx : ByteArray) (n m : Int) : Calls Tryz.prog 118 #[opV k nm tx n m] w fun e w' => e = .returned (.int .i64 (chkA k nm.size tx.size n m)) ∧ Below w.heap.size w w' := by
  by_cases h : k < 1 ∨ 8 < k
  · rw [chkA_out h]
    exact check_out h nm tx n m
  · rw [chkA_in (by omega) (by omega)]
    have := check_tab hT k.toNat (by omega) (by omega) nm tx n m
    rw [show ((k.toNat : Nat) : Int) = k by omega] at this
    exact this
end Go.Proofs.YtfeppannfcbakaaGreatDoor

namespace Go.Proofs.YtfeppannfcbakaaGreatDoor
set_option linter.unusedVariables false

/-- Digits read from the left; what is above the greatest number is none. -/
def decN : Nat → List UInt8 → Option Nat
  | acc, [] => some acc
  | acc, c :: r => if 48 ≤ c.toNat ∧ c.toNat ≤ 57 then (if 10 * acc + (c.toNat - 48) ≤ 9223372036854775807 then decN (10 * acc + (c.toNat - 48)) r else none) else none
/-- A number as it is written. -/
def numW (l : List UInt8) : Option Nat := if l = [] ∨ (1 < l.length ∧ l.head? = some 48) then none else decN 0 l

theorem decN_append (a b : List UInt8) : ∀ acc, decN acc (a ++ b) = (decN acc a).bind fun x => decN x b := by
  induction a with
  | nil => intro acc; simp [decN]
  | cons c r ih =>
    intro acc
    simp only [List.cons_append, decN]
    split
    · split
      · exact ih _
      · rfl
    · rfl
theorem toNat_dig {d : Nat} (h : d < 10) : (UInt8.ofNat (48 + d)).toNat = 48 + d := by simp; omega
theorem decN_one {acc d : Nat} (hd : d < 10) (h : 10 * acc + d ≤ 9223372036854775807) : decN acc [UInt8.ofNat (48 + d)] = some (10 * acc + d) := by
  simp only [decN]
  rw [toNat_dig hd, if_pos ⟨by omega, by omega⟩, if_pos (by omega)]
  congr 1
  omega
theorem decN_digits : ∀ v : Nat, v ≤ 9223372036854775807 → decN 0 (Lib.decDigits v) = some v := by
  intro v
  induction v using Nat.strongRecOn with
  | _ v ih =>
    intro hv
    rw [Lib.decDigits]
    split
    · rename_i h
      rw [decN_one h (by omega)]
      simp
    · rename_i h
      rw [decN_append, ih (v / 10) (by omega) (by omega), Option.bind_some, decN_one (by omega) (by omega)]
      congr 1
      omega
theorem digits_ne (v : Nat) : Lib.decDigits v ≠ [] := by
  rw [Lib.decDigits]
  split <;> simp
theorem digits_head : ∀ v : Nat, 1 ≤ v → (Lib.decDigits v).head? ≠ some 48 := by
  intro v
  induction v using Nat.strongRecOn with
  | _ v ih =>
    intro hv
    rw [Lib.decDigits]
    split
    · rename_i h
      simp only [List.head?_cons, ne_eq, Option.some.injEq]
      intro e
      have := congrArg UInt8.toNat e
      rw [toNat_dig h] at this
      simp at this
      omega
    · rename_i h
      have := ih (v / 10) (by omega) (by omega)
      cases hd : Lib.decDigits (v / 10) with
      | nil => exact absurd hd (digits_ne _)
      | cons a b => rw [hd] at this; simpa using this
theorem digits_long {v : Nat} (h : 1 < (Lib.decDigits v).length) : 1 ≤ v := by
  apply Classical.byContradiction
  intro hn
  have : v = 0 := by omega
  subst this
  rw [Lib.decDigits] at h
  simp at h
theorem digits_len : ∀ (k v : Nat), v < 10 ^ (k + 1) → (Lib.decDigits v).length ≤ k + 1
  | 0, v, h => by rw [Lib.decDigits, dif_pos (by simpa using h)]; simp
  | k + 1, v, h => by
    rw [Lib.decDigits]
    split
    · simp
    · rw [List.length_append]
      have := digits_len k (v / 10) (by rw [Nat.pow_succ] at h; omega)
      simp only [List.length_cons, List.length_nil]
      omega
theorem digits_short {v : Nat} (h : v ≤ 9223372036854775807) : (Lib.decDigits v).length ≤ 19 := digits_len 18 v (by omega)
theorem numW_digits {v : Nat} (h : v ≤ 9223372036854775807) : numW (Lib.decDigits v) = some v := by
  unfold numW
  rw [if_neg]
  · exact decN_digits v h
  · rintro (e | ⟨h1, h2⟩)
    · exact digits_ne _ e
    · exact digits_head v (digits_long h1) h2
theorem decN_le : ∀ {l : List UInt8} {acc v : Nat}, acc ≤ 9223372036854775807 → decN acc l = some v → v ≤ 9223372036854775807
  | [], acc, v, ha, h => by simp only [decN, Option.some.injEq] at h; omega
  | c :: r, acc, v, ha, h => by
    simp only [decN] at h
    split at h
    · split at h
      · exact decN_le (by assumption) h
      · simp at h
    · simp at h
theorem numW_le {l : List UInt8} {v : Nat} (h : numW l = some v) : v ≤ 9223372036854775807 := by
  unfold numW at h
  split at h
  · simp at h
  · exact decN_le (by omega) h
theorem byte_of (c : UInt8) (h : 48 ≤ c.toNat) : UInt8.ofNat (48 + (c.toNat - 48)) = c := by
  rw [show 48 + (c.toNat - 48) = c.toNat by omega]
  simp
theorem snoc_cases (l : List UInt8) : l = [] ∨ ∃ m c, l = m ++ [c] := by
  rcases List.eq_nil_or_concat l with h | ⟨m, c, h⟩
  · exact Or.inl h
  · exact Or.inr ⟨m, c, by rw [h, List.concat_eq_append]⟩
theorem digits_of : ∀ (n : Nat) (l : List UInt8) (v : Nat), l.length = n → numW l = some v → l = Lib.decDigits v := by
  intro n
  induction n with
  | zero =>
    intro l v hl h
    have : l = [] := List.eq_nil_of_length_eq_zero hl
    subst this
    simp [numW] at h
  | succ n ih =>
    intro l v hl h
    rcases snoc_cases l with rfl | ⟨m, c, rfl⟩
    · simp at hl
    unfold numW at h
    split at h
    · simp at h
    rename_i hno
    rw [decN_append] at h
    cases hm : decN 0 m with
    | none => rw [hm] at h; simp at h
    | some u =>
      rw [hm, Option.bind_some] at h
      simp only [decN] at h
      split at h
      · rename_i hc
        split at h
        · rename_i hle
          simp only [Option.some.injEq] at h
          subst h
          by_cases hm0 : m = []
          · subst hm0
            simp only [decN, Option.some.injEq] at hm
            subst hm
            rw [Lib.decDigits, dif_pos (by omega)]
            simp only [List.nil_append, Nat.mul_zero, Nat.zero_add]
            rw [byte_of c hc.1]
          · have hml : 1 ≤ m.length := List.length_pos_iff.2 hm0
            have hh : m.head? = (m ++ [c]).head? := by
              cases m with
              | nil => exact absurd rfl hm0
              | cons a b => rfl
            have hnh : m.head? ≠ some 48 := by
              intro e
              exact hno (Or.inr ⟨by simp; omega, by rw [← hh]; exact e⟩)
            have hnm : numW m = some u := by
              unfold numW
              rw [if_neg (by rintro (e | ⟨_, e⟩); exact hm0 e; exact hnh e)]
              exact hm
            have hmd := ih m u (by simp at hl; omega) hnm
            have hu : 1 ≤ u := by
              apply Classical.byContradiction
              intro hn
              have : u = 0 := by omega
              subst this
              rw [Lib.decDigits, dif_pos (by omega)] at hmd
              rw [hmd] at hnh
              exact hnh rfl
            have h10 : ¬ (10 * u + (c.toNat - 48)) < 10 := by omega
            rw [Lib.decDigits, dif_neg h10, show (10 * u + (c.toNat - 48)) / 10 = u by omega, ← hmd, show (10 * u + (c.toNat - 48)) % 10 = c.toNat - 48 by omega, byte_of c hc.1]
        · simp at h
      · simp at h
theorem numW_spelt {l : List UInt8} {v : Nat} (h : numW l = some v) : l = Lib.decDigits v := digits_of _ l v rfl h
theorem parse_of : ∀ {l : List UInt8} {acc v : Nat}, decN acc l = some v → Lib.parseUint10 acc l = .ok v
  | [], acc, v, h => by simp only [decN, Option.some.injEq] at h; rw [Lib.parseUint10, h]
  | c :: r, acc, v, h => by
    simp only [decN] at h
    split at h
    · rename_i hc
      split at h
      · rename_i hle
        simp only [Lib.parseUint10]
        rw [if_pos hc, if_neg (by omega), if_neg (by omega), show acc * 10 = 10 * acc by omega]
        exact parse_of h
      · simp at h
    · simp at h
theorem atoi_of {l : List UInt8} {v : Nat} (h : numW l = some v) : Lib.atoiAll l = .ok (v : Int) := by
  have hle := numW_le h
  unfold numW at h
  split at h
  · simp at h
  rename_i hno
  cases l with
  | nil => exact absurd (Or.inl rfl) hno
  | cons c r =>
    have hp := parse_of h
    simp only [decN] at h
    split at h
    · rename_i hc
      unfold Lib.atoiAll
      simp only
      rw [if_neg (by omega), Lib.parseMag, if_neg (by simp), hp]
      simp only
      rw [if_neg (by omega), if_neg (by omega), if_neg (by omega)]
    · simp at h
/-- What the program's Number tells is the document's. -/
theorem numW_none {l : List UInt8} (h : numW l = none) {v : Int} (hv : v ≤ 9223372036854775807) (h0 : 0 ≤ v) : Lib.itoa v ≠ l := by
  intro e
  unfold Lib.itoa at e
  rw [if_neg (by omega)] at e
  rw [← e, numW_digits (by omega)] at h
  simp at h
end Go.Proofs.YtfeppannfcbakaaGreatDoor

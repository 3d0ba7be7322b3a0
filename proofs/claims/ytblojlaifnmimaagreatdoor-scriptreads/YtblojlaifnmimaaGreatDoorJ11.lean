import Derived.Test.YtblojlaifnmimaaGreatDoorJ7
import Derived.Test.YtblojlaifnmimaaGreatDoorJ2
import Derived.Test.YtblojlaifnmimaaGreatDoorSLb
import Derived.Lib.AppendStr
namespace Go.Proofs.YtblojlaifnmimaaGreatDoor
open Go.RowKit
set_option linter.unusedVariables false

/-- A builder in block B, with all that it has from there on. -/
abbrev Bd (B : Nat) (l : List UInt8) (w : World) : Prop := Lib.IsBuilder 60 5 B B (cellsB l) w
theorem bd_lt {B : Nat} {p : Value} {l : List Value} {w : World} (h : Lib.BuilderAt 60 5 B B p l w) : B < w.heap.size := World.block_lt_of_cell? w _ h.cell0
theorem Bd.lt {B : Nat} {l : List UInt8} {w : World} (h : Bd B l w) : B < w.heap.size := h.elim bd_lt bd_lt
theorem Tryz.size45 : (Tryz.prog.info? 60).map (·.size) = some 2 := by kernel_rfl
theorem Tryz.lies45 : liesAt Tryz.prog Tryz.prog.depth 60 (2 / Tryz.prog.cellsOf 60) 0 60 1 = true := by kernel_rfl

set_option maxHeartbeats 1000000 in
set_option maxRecDepth 1000000 in
/-- copyCheck: from then on the builder knows its place. -/
theorem bcheck_any {B : Nat} {l : List UInt8} {w : World} (h : Bd B l w) :
    Calls Tryz.prog 78 #[ptr B] w fun e w' => e = .returned (.tuple #[]) ∧ Lib.BuilderAt 60 5 B B (ptr B) (cellsB l) w' ∧ Below B w w' := by
  obtain ⟨j, hj, hjs⟩ := Option.map_eq_some_iff.1 Tryz.size45
  rcases h with h | h
  · have s0 := h.cell0
    have hsh := h.shape
    have f0 := h.frozen0
    have U := hid (h.used (ptr B))
    have hB := hid h.1
    clear h
    go_enter Tryz.func78, Tryz.ntmps78
    go_wp2
    rw [Lib.run_to_unsafe w ⟨B, 0, none⟩ Tryz.underlying57 Tryz.underlying138 hj (by rw [hjs]; decide) hsh (Nat.zero_lt_succ 1)]
    simp only [Result.andThen]
    rw [Oper.upon_value]
    go_wp2
    rw [run_callFunc_extern Tryz.func102 (by kernel_rfl) (by kernel_rfl) (by kernel_rfl) (e := Extern.AbiNoEscape.same) (by kernel_rfl), Lib.run_noEscape]
    simp only [Result.andThen]
    rw [Oper.upon_value]
    go_wp2
    rw [Lib.run_from_unsafe w ⟨B, 0, none⟩ Tryz.underlying138 Tryz.underlying57 hj hsh Tryz.lies45]
    simp only [Result.andThen]
    rw [Oper.upon_value]
    go_wp2
    go_end0
    exact ⟨rfl, U.out, (Below.refl B w).setCell (p := ⟨B, 0, none⟩) hB.out _⟩
  · have s0 := h.cell0
    have U := hid h
    clear h
    go_enter Tryz.func78, Tryz.ntmps78
    go_wp2
    rw [Lib.run_neq_ptr_same w _ Tryz.underlying57 hj]
    go_wp2
    go_end0
    exact ⟨rfl, U.out, Below.refl B _⟩

/-- Where a builder that knows its place has its bytes. -/
theorem bd_open {B : Nat} {l : List UInt8} {w : World} (h : Lib.BuilderAt 60 5 B B (ptr B) (cellsB l) w) : ∃ ao c, w.heap[B]? = some (.cells #[ptr B, .slice ao l.length c] 60 (0, 0)) ∧ w.ownsRow B 5 1 (.slice ao l.length c) (cellsB l).length (cellsB l) ∧ (Value.slice ao l.length c).ownBlock ≠ some B := by
  obtain ⟨hB, v, hbk, hown, hne⟩ := h
  obtain ⟨ao, c, rfl⟩ := owns_form hown
  rw [cellsB_length] at *
  exact ⟨ao, c, hbk, hown, hne⟩

/-- Bytes laid behind a builder's: what the store leaves. -/
theorem bd_put {B : Nat} {l m : List UInt8} {w W w2 : World} {v v' : Value} (hB0 : Below B w W) (hlt : B < w.heap.size) (hbk : W.heap[B]? = some (.cells #[ptr B, v] 60 (0, 0))) (hown0 : W.ownsRow B 5 1 v (cellsB l).length (cellsB l)) (hne : v.ownBlock ≠ some B) (hown : w2.ownsRow B 5 1 v' (cellsB m).length (cellsB m)) (hg : W.grownBy w2 v.ownBlock) :
    (w2.heap[B]? = some (.cells #[ptr B, v] 60 (0, 0))) ∧ Bd B m (w2.setCell ⟨B, 1, none⟩ v') ∧ Below B w (w2.setCell ⟨B, 1, none⟩ v') := by
  have hsz := hB0.size
  have hb2 : w2.heap[B]? = some (.cells #[ptr B, v] 60 (0, 0)) := by
    rw [hg.block B (by omega) (fun e => hne e.symm)]
    exact hbk
  refine ⟨hb2, Or.inr ?_, ?_⟩
  · exact Lib.BuilderAt.put (T := 60) (e := 5) (Nat.le_refl _) hb2 (bs' := cellsB m) hown (by decide)
  · exact (hB0.grown hg (by omega) (fun k hk => (hown0.lt k hk).1)).setCell (p := ⟨B, 1, none⟩) (Nat.le_refl _) _

set_option maxHeartbeats 1000000 in
set_option maxRecDepth 1000000 in
theorem WriteByte_any {B : Nat} {l : List UInt8} {b : UInt8} {w : World} (h : Bd B l w) (hl : l.length + 1 ≤ 140737488355328) :
    Calls Tryz.prog 79 #[ptr B, .int .u8 (b.toNat : Int)] w fun e w' => e = .returned .nilIface ∧ Bd B (l ++ [b]) w' ∧ Below B w w' := by
  obtain ⟨i1, hi1, hz0, hz1, hz2⟩ := info_parts Tryz.info5
  have C := hid (bcheck_any h)
  have hBw := h.lt
  have key : Hid (∀ w1, Lib.BuilderAt 60 5 B B (ptr B) (cellsB l) w1 → Below B w w1 → ∃ ao c ao' c' w2, w1.cell? ⟨B, 1, none⟩ = some (.slice ao l.length c) ∧ (Builtin.append_ #[58, 58] 58 #[.slice ao l.length c, .slice (some ⟨w1.heap.size, 0, none⟩) 1 1]).run Tryz.prog (w1.alloc (.cells #[.int .u8 (b.toNat : Int)] 5)) = .ok (.slice ao' (l.length + 1) c') w2 ∧ w2.cell? ⟨B, 1, none⟩ = some (.slice ao l.length c) ∧ w2.frozen? ⟨B, 1, none⟩ = false ∧ Bd B (l ++ [b]) (w2.setCell ⟨B, 1, none⟩ (.slice ao' (l.length + 1) c')) ∧ Below B w (w2.setCell ⟨B, 1, none⟩ (.slice ao' (l.length + 1) c'))) := hid (by
    intro w1 h1 hb1
    have hlt := bd_lt h1
    obtain ⟨ao, c, hbk, hown, hne⟩ := bd_open h1
    have hown1 := hown.alloc (.cells #[.int .u8 (b.toNat : Int)] 5)
    obtain ⟨v', w2, hr, h2, h3, h4⟩ := run_append_own (P := Tryz.prog) (w1.alloc (.cells #[.int .u8 (b.toNat : Int)] 5)) B 58 58 5 i1 (.int .u8 0) 1 1 Tryz.underlying58 hi1 hz0 hz1 hz2 rfl (by decide) _ _ _ hown1 ⟨w1.heap.size, 0, none⟩ 1 1 [.int .u8 (b.toNat : Int)] (by simp) (one_new (by rw [cell_at (heap_alloc_new w1 _)]; rfl)) (one_cell rfl) (by rw [cellsB_length]; unfold maxLen; omega) (by rw [cellsB_length]; omega) (by simp; omega)
    obtain ⟨ao', c', rfl⟩ := owns_form h2
    rw [cellsB_length] at hr
    have hb0 : (w1.alloc (.cells #[.int .u8 (b.toNat : Int)] 5)).heap[B]? = some (.cells #[ptr B, .slice ao l.length c] 60 (0, 0)) := by rw [Lib.alloc_old w1 _ B hlt]; exact hbk
    obtain ⟨k1, k2, k3⟩ := bd_put (m := l ++ [b]) (hb1.alloc (by omega) _) hBw hb0 hown1 hne (by rw [cellsB_append, List.length_append]; exact h2) h3
    rw [cellsB_length] at k2 k3
    exact ⟨ao, c, ao', c', w2, by rw [Lib.cell_of_heap hbk]; rfl, hr, by rw [Lib.cell_of_heap k1]; rfl, Lib.frozen_of_heap k1 1, k2, k3⟩)
  generalize hn : l.length = n at *
  clear hn h
  generalize (b.toNat : Int) = bi at *
  go_enter Tryz.func79, Tryz.ntmps79
  go_wp2_with (first | (go_at_call 78; refine C.out.mono ?_; rintro e w1 ⟨rfl, h1, hb1⟩; have hk := key.out w1 h1 hb1; obtain ⟨ao, c, ao', c', w2, s1, hr, t1, f1, A2, B2⟩ := hk; have R := hid hr; have A3 := hid A2; have B3 := hid B2; clear hr A2 B2 h1 hb1) | (at_builtin; refine wpList_append_run rfl _ _ 58 rfl _ _ _ _ rfl rfl R.out ?_))
  go_ret
  exact ⟨rfl, A3.out, B3.out⟩

theorem wpList_append_run2 {P : Program} {w : World} {ops : Array Oper} {rest : List Oper} {o : Oper} {a : Act} {Q : Exit → Act → World → Prop} (hgd : o.guard = none) (s x : Operand) (t u : TypeId)
    (ho : o.op = .call { callee := .builtin .append, args := #[s, x], argTypes := #[t, u] }) (v1 v2 v' : Value) (w' : World) (hs : a.eval s = v1) (hx : a.eval x = v2)
    (hr : (Builtin.append_ #[t, u] o.type #[v1, v2]).run P w = .ok v' w') (h : wpList P ops Q rest (a.put o.dst v') w') : wpList P ops Q (o :: rest) a w := by
  refine wpList_plain hgd fun K hK => ?_
  unfold Oper.wp execOp
  simp only [ho, resolve, invoke, builtin, Sem.run_bind, Sem.run_pure, Result.andThen_ok, List.map_toArray, List.map_cons, List.map_nil, hs, hx, hr]
  exact hK _ _ h

theorem strCells_eq (x : List UInt8) : Lib.strCells ⟨x.toArray⟩ = cellsB x := by
  simp [Lib.strCells, cellsB]

set_option maxHeartbeats 1000000 in
set_option maxRecDepth 1000000 in
theorem WriteString_any {B : Nat} {l x : List UInt8} {w : World} (h : Bd B l w) (hl : l.length + x.length ≤ 140737488355328) :
    Calls Tryz.prog 49 #[ptr B, .string ⟨x.toArray⟩] w fun e w' => e = .returned (.tuple #[.int .i64 (x.length : Int), .nilIface]) ∧ Bd B (l ++ x) w' ∧ Below B w w' := by
  obtain ⟨i1, hi1, hz0, hz1, hz2⟩ := info_parts Tryz.info5
  have C := hid (bcheck_any h)
  have hBw := h.lt
  have hz : (⟨x.toArray⟩ : ByteArray).size = x.length := by simp [ByteArray.size]
  have key : Hid (∀ w1, Lib.BuilderAt 60 5 B B (ptr B) (cellsB l) w1 → Below B w w1 → ∃ ao c ao' c' w2, w1.cell? ⟨B, 1, none⟩ = some (.slice ao l.length c) ∧ (Builtin.append_ #[58, 9] 58 #[.slice ao l.length c, .string ⟨x.toArray⟩]).run Tryz.prog w1 = .ok (.slice ao' (l.length + x.length) c') w2 ∧ w2.cell? ⟨B, 1, none⟩ = some (.slice ao l.length c) ∧ w2.frozen? ⟨B, 1, none⟩ = false ∧ Bd B (l ++ x) (w2.setCell ⟨B, 1, none⟩ (.slice ao' (l.length + x.length) c')) ∧ Below B w (w2.setCell ⟨B, 1, none⟩ (.slice ao' (l.length + x.length) c'))) := hid (by
    intro w1 h1 hb1
    have hlt := bd_lt h1
    obtain ⟨ao, c, hbk, hown, hne⟩ := bd_open h1
    obtain ⟨v', w2, hr, h2, h3, h4⟩ := Lib.run_append_own_string (P := Tryz.prog) w1 B 58 9 58 5 i1 Tryz.underlying58 Tryz.underlying9 hi1 hz0 hz1 hz2 _ _ _ hown ⟨x.toArray⟩ (by rw [cellsB_length, hz]; unfold maxLen; omega) (by rw [cellsB_length, hz]; omega) (by omega)
    obtain ⟨ao', c', rfl⟩ := owns_form h2
    rw [cellsB_length, hz] at hr
    obtain ⟨k1, k2, k3⟩ := bd_put (m := l ++ x) hb1 hBw hbk hown hne (by rw [cellsB_append, List.length_append, cellsB_length x, ← hz, ← strCells_eq]; exact h2) h3
    rw [cellsB_length, hz] at k2 k3
    exact ⟨ao, c, ao', c', w2, by rw [Lib.cell_of_heap hbk]; rfl, hr, by rw [Lib.cell_of_heap k1]; rfl, Lib.frozen_of_heap k1 1, k2, k3⟩)
  generalize hn : l.length = n at *
  clear hn h
  generalize ByteArray.mk x.toArray = X at *
  generalize hm : x.length = m at *
  clear hm
  go_enter Tryz.func49, Tryz.ntmps49
  go_wp2_with (first | (go_at_call 78; refine C.out.mono ?_; rintro e w1 ⟨rfl, h1, hb1⟩; have hk := key.out w1 h1 hb1; obtain ⟨ao, c, ao', c', w2, s1, hr, t1, f1, A2, B2⟩ := hk; have R := hid hr; have A3 := hid A2; have B3 := hid B2; clear hr A2 B2 h1 hb1) | (at_builtin; refine wpList_append_run2 rfl _ _ 58 9 rfl _ _ _ _ rfl rfl R.out ?_))
  go_ret2
  exact ⟨rfl, A3.out, B3.out⟩
end Go.Proofs.YtblojlaifnmimaaGreatDoor

namespace Go.Proofs.YtblojlaifnmimaaGreatDoor
open Go.RowKit
set_option linter.unusedVariables false

theorem Tryz.extra169 : Builder.Extra Tryz.prog Tryz.lays169_ren := {
  sizeBuilder := by kernel_rfl
  liesBuilder := by kernel_rfl
  t5 := Tryz.underlying5
  a5 := Tryz.isAgg5
  z5 := Tryz.sizeOf5
  v5 := Tryz.zeroValue5
  infoByte := by kernel_rfl
  cellsByte := by kernel_rfl
  sizeByte := by kernel_rfl
  neB5 := by decide }
theorem byteCells_eq (l : List UInt8) : Lib.byteCells l = cellsB l := by simp [Lib.byteCells, cellsB]
theorem String_any {B : Nat} {l : List UInt8} {w : World} (h : Bd B l w) : Calls Tryz.prog 29 #[ptr B] w fun e w' => e = .returned (.string ⟨l.toArray⟩) ∧ Below B w w' := by
  have hB := h.lt
  have := Any.Builder_String_any_k Tryz.lays169 Tryz.extra169 B B l w (by rw [byteCells_eq]; exact Lib.IsBuilderF.of h) (by omega)
  refine Calls.mono this ?_
  rintro e w' ⟨h1, _, h2, _⟩
  exact ⟨h1, h2⟩

theorem idx_hex {n : Nat} (h : n < 16) (W : World) : (Instr.index 9 (.string ⟨#[48, 49, 50, 51, 52, 53, 54, 55, 56, 57, 97, 98, 99, 100, 101, 102]⟩) (.int .u8 (n : Int))).run Tryz.prog W = .ok (.int .u8 ((hexD n).toNat : Int)) W := by
  have hs : (⟨#[48, 49, 50, 51, 52, 53, 54, 55, 56, 57, 97, 98, 99, 100, 101, 102]⟩ : ByteArray).size = 16 := rfl
  rw [run_index_string W 9 _ _ _ Tryz.underlying9, dif_pos ⟨by omega, by rw [hs]; omega⟩]
  congr 3
  have hh : ∀ a : Fin 16, ((⟨#[48, 49, 50, 51, 52, 53, 54, 55, 56, 57, 97, 98, 99, 100, 101, 102]⟩ : ByteArray)[a.val]'(show a.val < 16 from a.isLt)).toNat = (hexD a.val).toNat := by decide +kernel
  have := hh ⟨n, h⟩
  simpa using this
theorem shr4 (n : Nat) (h : n < 256) : ((n : Int) / 16) = ((n / 16 : Nat) : Int) := by omega
theorem and15 (n : Nat) (h : n < 256) : bits BinOp.and IntKind.u8 (n : Int) 15 = ((n % 16 : Nat) : Int) := by
  have hh : ∀ a : Fin 256, bits BinOp.and IntKind.u8 (a.val : Int) 15 = ((a.val % 16 : Nat) : Int) := by decide +kernel
  exact hh ⟨n, h⟩

set_option maxHeartbeats 1000000 in
set_option maxRecDepth 1000000 in
theorem writeQuoted_any {B : Nat} {l : List UInt8} {b : UInt8} {w : World} (h : Bd B l w) (hl : l.length + 4 ≤ 140737488355328) :
    Calls Tryz.prog 104 #[ptr B, .int .u8 (b.toNat : Int)] w fun e w' => e = .returned (.tuple #[]) ∧ Bd B (l ++ escB b) w' ∧ Below B w w' := by
  have P := hid (prn_any b w)
  have hb := b.toNat_lt
  cases hp : prnN b.toNat with
  | false =>
    have e1 : escB b = [92, 120, hexD (b.toNat / 16), hexD (b.toNat % 16)] := by unfold escB; rw [hp, if_neg (by simp)]
    rw [e1]
    have C1 := hid (WriteString_any (x := [92, 120]) h (by simp; omega))
    have i1 := idx_hex (n := b.toNat / 16) (by omega)
    have i2 := idx_hex (n := b.toNat % 16) (by omega)
    have a15 := and15 b.toNat (by omega)
    have s4 := shr4 b.toNat (by omega)
    clear e1 h
    generalize b.toNat / 16 = n1 at *
    generalize b.toNat % 16 = n2 at *
    generalize hexD n1 = d1 at *
    generalize hexD n2 = d2 at *
    generalize (b.toNat : Int) = bi at *
    go_enter Tryz.func104, Tryz.ntmps104
    go_wp2_with (first | (go_at_call 115; refine P.out.mono ?_; rintro e w1 ⟨rfl, rfl⟩; rw [hp]) | (go_at_call 49; refine C1.out.mono ?_; rintro e w1 ⟨rfl, A1, B1⟩; have C2 := hid (WriteByte_any (b := d1) A1 (by simp; omega)); have BB1 := hid B1; clear A1 B1; refine Hid.out ?_))
    refine hid ?_
    go_wp2_with (go_at_call 79; refine C2.out.mono ?_; rintro e w2 ⟨rfl, A2, B2⟩; have C3 := hid (WriteByte_any (b := d2) A2 (by simp; omega)); have BB2 := hid (BB1.out.trans B2); clear A2 B2; refine Hid.out ?_)
    refine hid ?_
    go_wp2_with (go_at_call 79; refine C3.out.mono ?_; rintro e w3 ⟨rfl, A3, B3⟩; have AA3 := hid A3; have BB3 := hid (BB2.out.trans B3); clear A3 B3)
    refine bodyPost_ret (results_none rfl _ _ _) rfl ?_
    exact ⟨rfl, by simpa using AA3.out, BB3.out⟩
  | true =>
    by_cases hq : b.toNat = 34 ∨ b.toNat = 92
    · have e1 : escB b = [92, b] := by unfold escB; rw [hp, if_pos rfl, if_pos hq]
      rw [e1]
      have C1 := hid (WriteByte_any (b := 92) h (by omega))
      have c92 : ((92 : UInt8).toNat : Int) = 92 := by decide
      rw [c92] at C1
      have NB : Hid (∀ w1, Bd B (l ++ [92]) w1 → Calls Tryz.prog 79 #[ptr B, .int .u8 (b.toNat : Int)] w1 fun e w' => e = .returned .nilIface ∧ Bd B (l ++ [92] ++ [b]) w' ∧ Below B w1 w') := hid (fun w1 h1 => WriteByte_any (b := b) h1 (by simp; omega))
      clear e1 h c92
      by_cases h34 : b.toNat = 34
      · have bi : (b.toNat : Int) = 34 := by omega
        rw [bi] at P NB ⊢
        clear bi h34 hq
        go_enter Tryz.func104, Tryz.ntmps104
        go_wp2_with (first | (go_at_call 115; refine P.out.mono ?_; rintro e w1 ⟨rfl, rfl⟩; rw [hp]) | (go_at_call 79; refine C1.out.mono ?_; rintro e w1 ⟨rfl, A1, B1⟩; have C2 := hid (NB.out w1 A1); have BB1 := hid B1; clear A1 B1; refine Hid.out ?_))
        refine hid ?_
        go_wp2_with (go_at_call 79; refine C2.out.mono ?_; rintro e w2 ⟨rfl, A2, B2⟩; have AA2 := hid A2; have BB2 := hid (BB1.out.trans B2); clear A2 B2)
        go_end0
        exact ⟨rfl, by simpa using AA2.out, BB2.out⟩
      · have bi : (b.toNat : Int) = 92 := by omega
        rw [bi] at P NB ⊢
        clear bi h34 hq
        go_enter Tryz.func104, Tryz.ntmps104
        go_wp2_with (first | (go_at_call 115; refine P.out.mono ?_; rintro e w1 ⟨rfl, rfl⟩; rw [hp]) | (go_at_call 79; refine C1.out.mono ?_; rintro e w1 ⟨rfl, A1, B1⟩; have C2 := hid (NB.out w1 A1); have BB1 := hid B1; clear A1 B1; refine Hid.out ?_))
        refine hid ?_
        go_wp2_with (go_at_call 79; refine C2.out.mono ?_; rintro e w2 ⟨rfl, A2, B2⟩; have AA2 := hid A2; have BB2 := hid (BB1.out.trans B2); clear A2 B2)
        go_end0
        exact ⟨rfl, by simpa using AA2.out, BB2.out⟩
    · have e1 : escB b = [b] := by unfold escB; rw [hp, if_pos rfl, if_neg hq]
      rw [e1]
      have C1 := hid (WriteByte_any (b := b) h (by omega))
      have n34 : ((b.toNat : Int) == 34) = false := by simp; omega
      have n92 : ((b.toNat : Int) == 92) = false := by simp; omega
      clear e1 h hq hb
      generalize (b.toNat : Int) = bi at *
      go_enter Tryz.func104, Tryz.ntmps104
      go_wp2_with (first | (go_at_call 115; refine P.out.mono ?_; rintro e w1 ⟨rfl, rfl⟩; rw [hp]) | (go_at_call 79; refine C1.out.mono ?_; rintro e w1 ⟨rfl, A1, B1⟩; have AA1 := hid A1; have BB1 := hid B1; clear A1 B1))
      go_end0
      exact ⟨rfl, AA1.out, BB1.out⟩
end Go.Proofs.YtblojlaifnmimaaGreatDoor

namespace Go.Proofs.YtblojlaifnmimaaGreatDoor
open Go.RowKit
set_option linter.unusedVariables false

theorem escB_len (b : UInt8) : (escB b).length ≤ 4 ∧ 1 ≤ (escB b).length := by
  unfold escB
  split
  · split <;> simp
  · simp
theorem escW_take {x : List UInt8} {k : Nat} (hk : k < x.length) : escW (x.take (k + 1)) = escW (x.take k) ++ escB (x.getD k 0) := by
  rw [take_snocB hk, escW_snoc]
theorem escW_len (x : List UInt8) : (escW x).length ≤ 4 * x.length := by
  induction x with
  | nil => simp [escW]
  | cons b r ih =>
    have e : escW (b :: r) = escB b ++ escW r := by simp [escW]
    have := (escB_len b).1
    rw [e, List.length_append, List.length_cons]
    omega

set_option maxHeartbeats 1000000 in
set_option maxRecDepth 1000000 in
theorem write_any {B : Nat} {l x : List UInt8} {w : World} (h : Bd B l w) (hl : l.length + 4 * x.length + 10 ≤ 140737488355328) :
    Calls Tryz.prog 80 #[ptr B, .string ⟨x.toArray⟩] w fun e w' => e = .returned (.tuple #[]) ∧ Bd B (l ++ wrtW x) w' ∧ Below B w w' := by
  have I := hid (isBareWord_any (l := x) (w := w) (by omega))
  have hz : (⟨x.toArray⟩ : ByteArray).size = x.length := by simp [ByteArray.size]
  cases hx : isBareW x with
  | true =>
    have e1 : wrtW x = x := by unfold wrtW; rw [hx, if_pos rfl]
    rw [e1]
    have C := hid (WriteString_any (x := x) h (by omega))
    clear e1 h
    generalize ByteArray.mk x.toArray = X at *
    go_enter Tryz.func80, Tryz.ntmps80
    go_wp2_with (first | (go_at_call 103; refine I.out.mono ?_; rintro e w1 ⟨rfl, rfl⟩; rw [hx]) | (go_at_call 49; refine C.out.mono ?_; rintro e w1 ⟨rfl, A1, B1⟩; have AA := hid A1; have BB := hid B1; clear A1 B1))
    refine bodyPost_ret (results_none rfl _ _ _) rfl ?_
    exact ⟨rfl, AA.out, BB.out⟩
  | false =>
    have e1 : wrtW x = 34 :: (escW x ++ [34]) := by unfold wrtW; rw [hx, if_neg (by simp)]
    rw [e1]
    have c34 : ((34 : UInt8).toNat : Int) = 34 := by decide
    have C := hid (WriteByte_any (b := 34) h (by omega))
    rw [c34] at C
    have IX : Hid (∀ k, k < x.length → ∀ W, (Instr.index 9 (.string ⟨x.toArray⟩) (.int .i64 (k : Int))).run Tryz.prog W = .ok (.int .u8 ((x.getD k 0).toNat : Int)) W) := fun k hk W => idx_at hk W
    have WQ : Hid (∀ k W, k < x.length → Bd B (l ++ [34] ++ escW (x.take k)) W → Calls Tryz.prog 104 #[ptr B, .int .u8 ((x.getD k 0).toNat : Int)] W fun e w' => e = .returned (.tuple #[]) ∧ Bd B (l ++ [34] ++ escW (x.take (k + 1))) w' ∧ Below B W w') := hid (fun k W hk hb => by
      have h1 := escW_len (x.take k)
      have h2 : (x.take k).length = k := by simp; omega
      have := writeQuoted_any (b := x.getD k 0) hb (by simp only [List.length_append, List.length_cons, List.length_nil]; omega)
      rw [escW_take hk, ← List.append_assoc]
      exact this)
    have WE : Hid (∀ W, Bd B (l ++ [34] ++ escW (x.take x.length)) W → Calls Tryz.prog 79 #[ptr B, .int .u8 34] W fun e w' => e = .returned .nilIface ∧ Bd B (l ++ (34 :: (escW x ++ [34]))) w' ∧ Below B W w') := hid (fun W hb => by
      have h1 := escW_len x
      rw [List.take_length] at hb
      have := WriteByte_any (b := 34) hb (by simp only [List.length_append, List.length_cons, List.length_nil]; omega)
      rw [c34] at this
      have e2 : l ++ (34 :: (escW x ++ [34])) = l ++ [34] ++ escW x ++ [34] := by simp
      rw [e2]
      exact this)
    have E0 : Hid (escW (x.take 0) = []) := hid (by simp [escW])
    clear e1 h c34
    generalize ByteArray.mk x.toArray = X at *
    generalize hn : x.length = n at *
    clear hn
    go_enter Tryz.func80, Tryz.ntmps80
    go_wp2_with (first | (go_at_call 103; refine I.out.mono ?_; rintro e w1 ⟨rfl, hw1⟩; subst w1; rw [hx]) | (go_at_call 79; refine C.out.mono ?_; rintro e w1 ⟨rfl, A1, B1⟩; have AA := hid A1; have BB := hid B1; clear A1 B1; refine Hid.out ?_))
    refine hid ?_
    go_wp2
    go_loopw [14] (fun iv wr => ∃ k : Nat, k ≤ n ∧ iv = .int .i64 (k : Int) ∧ Hid (Bd B (l ++ [34] ++ escW (x.take k)) wr) ∧ Hid (Below B w wr)) (fun iv _ => n - (intOf iv).toNat)
    case atStart => exact ⟨0, by omega, rfl, hid (by rw [E0.out, List.append_nil]; exact AA.out), BB⟩
    case round =>
      obtain ⟨k, hk, rfl, hA, hB⟩ := hrel
      by_cases hlt : k < n
      · have ix := IX.out k hlt
        have Q := hid (WQ.out k wr hlt hA.out)
        have hlt' : (k : Int) < (n : Int) := by omega
        generalize ((x.getD k 0).toNat : Int) = bi at *
        go_wp2_with (go_at_call 104; refine Q.out.mono ?_; rintro e w2 ⟨rfl, A2, B2⟩; have AA2 := hid A2; have BB2 := hid (hB.out.trans B2); clear A2 B2)
        go_roundw
        case rel => exact ⟨k + 1, by omega, by go_num, AA2, BB2⟩
        case measure => simp [intOf]; omega
      · have hlt' : ¬ (k : Int) < (n : Int) := by omega
        have ek : k = n := by omega
        have Q := hid (WE.out wr (by rw [← ek]; exact hA.out))
        clear ek
        go_wp2_with (go_at_call 79; refine Q.out.mono ?_; rintro e w2 ⟨rfl, A2, B2⟩; have AA2 := hid A2; have BB2 := hid (hB.out.trans B2); clear A2 B2)
        go_end0
        exact ⟨rfl, AA2.out, BB2.out⟩

theorem wrtW_len (x : List UInt8) : (wrtW x).length ≤ 4 * x.length + 2 := by
  unfold wrtW
  split
  · omega
  · have := escW_len x
    simp only [List.length_cons, List.length_append, List.length_nil]
    omega
/-- How long a line of words may be. -/
def lenJ (ws : Ws) : Nat := (ws.map fun x => 4 * x.length + 16).sum
theorem take_snoc {ws : Ws} {k : Nat} (hk : k < ws.length) : ws.take (k + 1) = ws.take k ++ [ws.getD k []] := by
  rw [List.take_add_one, List.getElem?_eq_getElem hk]
  simp [List.getD, hk]
theorem lenJ_take {ws : Ws} {k : Nat} (hk : k < ws.length) : lenJ (ws.take (k + 1)) = lenJ (ws.take k) + (4 * (ws.getD k []).length + 16) := by
  rw [take_snoc hk]
  unfold lenJ
  rw [List.map_append, List.sum_append]
  simp
theorem lenJ_le : ∀ (ws : Ws) (k : Nat), lenJ (ws.take k) ≤ lenJ ws
  | [], k => by simp [lenJ]
  | x :: r, 0 => by simp [lenJ]
  | x :: r, k + 1 => by
    have := lenJ_le r k
    simp only [lenJ, List.take_succ_cons, List.map_cons, List.sum_cons] at this ⊢
    omega
theorem preW_len (ws : Ws) : (preW ws).length ≤ (joinW ws).length + 1 := by
  unfold preW
  split <;> simp
theorem joinW_len : ∀ (ws : Ws) (k : Nat), k ≤ ws.length → (joinW (ws.take k)).length ≤ lenJ (ws.take k)
  | ws, 0, h => by simp [joinW]
  | ws, k + 1, h => by
    have ih := joinW_len ws k (by omega)
    rw [lenJ_take (by omega), take_snoc (by omega), joinW_snoc, List.length_append]
    have h1 := preW_len (ws.take k)
    have h2 := wrtW_len (ws.getD k [])
    omega

set_option maxHeartbeats 1600000 in
set_option maxRecDepth 1000000 in
theorem Join_any {s : Value} {ws : Ws} {w : World} (hs : Rt w s ws) (hn : ws.length ≤ 140737488355328) (hl : lenJ ws ≤ 100000000000000) :
    Calls Tryz.prog 50 #[s] w fun e w' => e = .returned (.string ⟨(joinW ws).toArray⟩) ∧ Below w.heap.size w w' := by
  obtain ⟨ao, c, rfl⟩ := hs.form
  have HS := hid hs
  have b0 : Hid (Bd w.heap.size (joinW (ws.take 0)) (w.alloc (.cells #[.pointer none, .slice none 0 0] 60))) := hid (Or.inl ⟨Nat.le_refl _, .slice none 0 0, heap_alloc_new w _, by simpa [joinW, cellsB] using World.ownsRow_nil _ _ 5 1, by simp [Value.ownBlock]⟩)
  have bel0 := hid (ba w (.cells #[.pointer none, .slice none 0 0] 60))
  have c32 : ((32 : UInt8).toNat : Int) = 32 := by decide
  have SP : Hid (∀ k W, 0 < k → k < ws.length → Bd w.heap.size (joinW (ws.take k)) W → Calls Tryz.prog 79 #[ptr w.heap.size, .int .u8 32] W fun e w' => e = .returned .nilIface ∧ Bd w.heap.size (preW (ws.take k)) w' ∧ Below w.heap.size W w') := hid (fun k W h0 hk hb => by
    have h1 := joinW_len ws k (by omega)
    have h2 := lenJ_le ws k
    have := WriteByte_any (b := 32) hb (by omega)
    rw [c32] at this
    have e2 : preW (ws.take k) = joinW (ws.take k) ++ [32] := by
      unfold preW
      rw [if_neg (fun e => by have := congrArg List.length e; rw [List.length_take, List.length_nil] at this; omega)]
    rw [e2]
    exact this)
  have WR : Hid (∀ k W, k < ws.length → Bd w.heap.size (preW (ws.take k)) W → Calls Tryz.prog 80 #[ptr w.heap.size, .string ⟨(ws.getD k []).toArray⟩] W fun e w' => e = .returned (.tuple #[]) ∧ Bd w.heap.size (joinW (ws.take (k + 1))) w' ∧ Below w.heap.size W w') := hid (fun k W hk hb => by
    have h1 := joinW_len ws k (by omega)
    have h2 := lenJ_le ws (k + 1)
    rw [lenJ_take hk] at h2
    have h3 := preW_len (ws.take k)
    have := write_any (x := ws.getD k []) hb (by omega)
    rw [take_snoc hk, joinW_snoc]
    exact this)
  have P0 : Hid (preW (ws.take 0) = joinW (ws.take 0)) := hid (by simp [preW, joinW])
  have FN : Hid (∀ W, Bd w.heap.size (joinW (ws.take ws.length)) W → Calls Tryz.prog 29 #[ptr w.heap.size] W fun e w' => e = .returned (.string ⟨(joinW ws).toArray⟩) ∧ Below w.heap.size W w') := hid (fun W hb => by
    rw [List.take_length] at hb
    exact String_any hb)
  clear hs c32 hl
  generalize hJ : ByteArray.mk (joinW ws).toArray = J at *
  clear hJ
  generalize hnw : ws.length = n at *
  have HN := hid hnw
  clear hnw
  go_enter Tryz.func50, Tryz.ntmps50
  go_wp2
  go_loopw [8] (fun iv wr => ∃ k : Nat, k ≤ n ∧ iv = .int .i64 (k : Int) ∧ Hid (Bd w.heap.size (joinW (ws.take k)) wr) ∧ Hid (Below w.heap.size w wr)) (fun iv _ => n - (intOf iv).toNat)
  case atStart => exact ⟨0, by omega, rfl, b0, bel0⟩
  case round =>
    obtain ⟨k, hk, rfl, hA, hB⟩ := hrel
    by_cases hlt : k < n
    · obtain ⟨g, o, rfl, _, h1⟩ := (HS.out.later hB.out).at (j := k) (by rw [HN.out]; exact hlt)
      have hlt' : (k : Int) < (n : Int) := by omega
      by_cases h0 : k = 0
      · have Q := hid (WR.out k wr hlt (by have := hA.out; rw [h0] at this ⊢; rw [P0.out]; exact this))
        have hz : ¬ (0 : Int) < (k : Int) := by omega
        generalize ByteArray.mk (ws.getD k []).toArray = X at *
        clear h0
        go_wp2_with (go_at_call 80; refine Q.out.mono ?_; rintro e w2 ⟨rfl, A2, B2⟩; have AA2 := hid A2; have BB2 := hid (hB.out.trans B2); clear A2 B2)
        go_roundw
        case rel => exact ⟨k + 1, by omega, by go_num, AA2, BB2⟩
        case measure => simp [intOf]; omega
      · have Q := hid (SP.out k wr (by omega) hlt hA.out)
        have hz : (0 : Int) < (k : Int) := by omega
        have WK := hid (fun W hW => WR.out k W hlt hW)
        clear h0
        generalize ByteArray.mk (ws.getD k []).toArray = X at *
        go_wp2_with (go_at_call 79; refine Q.out.mono ?_; rintro e w2 ⟨rfl, A2, B2⟩; have Q2 := hid (WK.out w2 A2); have BB2 := hid (hB.out.trans B2); clear A2 B2; refine Hid.out ?_)
        refine hid ?_
        go_wp2_with (go_at_call 80; refine Q2.out.mono ?_; rintro e w3 ⟨rfl, A3, B3⟩; have AA3 := hid A3; have BB3 := hid (BB2.out.trans B3); clear A3 B3)
        go_roundw
        case rel => exact ⟨k + 1, by omega, by go_num, AA3, BB3⟩
        case measure => simp [intOf]; omega
    · have hlt' : ¬ (k : Int) < (n : Int) := by omega
      have ek : k = n := by omega
      have Q := hid (FN.out wr (by rw [← ek]; exact hA.out))
      clear ek
      go_wp2_with (go_at_call 29; refine Q.out.mono ?_; rintro e w2 ⟨rfl, B2⟩; have BB2 := hid (hB.out.trans B2); clear B2)
      go_ret
      exact ⟨rfl, BB2.out⟩
end Go.Proofs.YtblojlaifnmimaaGreatDoor

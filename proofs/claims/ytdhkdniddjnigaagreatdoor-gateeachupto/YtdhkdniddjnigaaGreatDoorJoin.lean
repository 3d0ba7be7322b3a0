import Derived.Test.YtdhkdniddjnigaaGreatDoorBd
namespace Go.Proofs.YtdhkdniddjnigaaGreatDoor
open Go.RowKit
set_option linter.unusedVariables false

theorem Tryz.extra169 : Builder.Extra Tryz.prog Tryz.lays169_ren := {
  sizeBuilder := by kernel_rfl
  liesBuilder := by kernel_rfl
  t5 := Tryz.underlying5
  a5 := Tryz.isAgg5
  z5 := Tryz.sizeOf5
  v5 := Tryz.zeroValue5
  infoByte := by kernel_rfl
  cellsByte := by kernel_rfl
  sizeByte := by kernel_rfl
  neB5 := by decide }
theorem byteCells_eq (l : List UInt8) : Lib.byteCells l = cellsB l := by simp [Lib.byteCells, cellsB]
theorem String_any {B : Nat} {l : List UInt8} {w : World} (h : Bd B l w) : Calls Tryz.prog 134 #[ptr B] w fun e w' => e = .returned (.string ⟨l.toArray⟩) ∧ Below B w w' := by
  have hB := h.lt
  have := Any.Builder_String_any_k Tryz.lays169 Tryz.extra169 B B l w (by rw [byteCells_eq]; exact Lib.IsBuilderF.of h) (by omega)
  refine Calls.mono this ?_
  rintro e w' ⟨h1, _, h2, _⟩
  exact ⟨h1, h2⟩

theorem idx_hex {n : Nat} (h : n < 16) (W : World) : (Instr.index 9 (.string ⟨#[48, 49, 50, 51, 52, 53, 54, 55, 56, 57, 97, 98, 99, 100, 101, 102]⟩) (.int .u8 (n : Int))).run Tryz.prog W = .ok (.int .u8 ((hexD n).toNat : Int)) W := by
  have hs : (⟨#[48, 49, 50, 51, 52, 53, 54, 55, 56, 57, 97, 98, 99, 100, 101, 102]⟩ : ByteArray).size = 16 := rfl
  rw [run_index_string W 9 _ _ _ Tryz.underlying9, dif_pos ⟨by omega, by rw [hs]; omega⟩]
  congr 3
  have hh : ∀ a : Fin 16, ((⟨#[48, 49, 50, 51, 52, 53, 54, 55, 56, 57, 97, 98, 99, 100, 101, 102]⟩ : ByteArray)[a.val]'(show a.val < 16 from a.isLt)).toNat = (hexD a.val).toNat := by decide +kernel
  have := hh ⟨n, h⟩
  simpa using this
theorem shr4 (n : Nat) (h : n < 256) : ((n : Int) / 16) = ((n / 16 : Nat) : Int) := by omega
theorem and15 (n : Nat) (h : n < 256) : bits BinOp.and IntKind.u8 (n : Int) 15 = ((n % 16 : Nat) : Int) := by
  have hh : ∀ a : Fin 256, bits BinOp.and IntKind.u8 (a.val : Int) 15 = ((a.val % 16 : Nat) : Int) := by decide +kernel
  exact hh ⟨n, h⟩

set_option maxHeartbeats 1000000 in
set_option maxRecDepth 1000000 in
theorem writeQuoted_any {B : Nat} {l : List UInt8} {b : UInt8} {w : World} (h : Bd B l w) (hl : l.length + 4 ≤ 140737488355328) :
    Calls Tryz.prog 180 #[ptr B, .int .u8 (b.toNat : Int)] w fun e w' => e = .returned (.tuple #[]) ∧ Bd B (l ++ escB b) w' ∧ Below B w w' := by
  have P := hid (prn_any b w)
  have hb := b.toNat_lt
  cases hp : prnN b.toNat with
  | false =>
    have e1 : escB b = [92, 120, hexD (b.toNat / 16), hexD (b.toNat % 16)] := by unfold escB; rw [hp, if_neg (by simp)]
    rw [e1]
    have C1 := hid (WriteString_any (x := [92, 120]) h (by simp; omega))
    have i1 := idx_hex (n := b.toNat / 16) (by omega)
    have i2 := idx_hex (n := b.toNat % 16) (by omega)
    have a15 := and15 b.toNat (by omega)
    have s4 := shr4 b.toNat (by omega)
    clear e1 h
    generalize b.toNat / 16 = n1 at *
    generalize b.toNat % 16 = n2 at *
    generalize hexD n1 = d1 at *
    generalize hexD n2 = d2 at *
    generalize (b.toNat : Int) = bi at *
    go_enter Tryz.func180, Tryz.ntmps180
    go_wp2_with (first | (go_at_call 206; refine P.out.mono ?_; rintro e w1 ⟨rfl, rfl⟩; rw [hp]) | (go_at_call 179; refine C1.out.mono ?_; rintro e w1 ⟨rfl, A1, B1⟩; have C2 := hid (WriteByte_any (b := d1) A1 (by simp; omega)); have BB1 := hid B1; clear A1 B1; refine Hid.out ?_))
    refine hid ?_
    go_wp2_with (go_at_call 132; refine C2.out.mono ?_; rintro e w2 ⟨rfl, A2, B2⟩; have C3 := hid (WriteByte_any (b := d2) A2 (by simp; omega)); have BB2 := hid (BB1.out.trans B2); clear A2 B2; refine Hid.out ?_)
    refine hid ?_
    go_wp2_with (go_at_call 132; refine C3.out.mono ?_; rintro e w3 ⟨rfl, A3, B3⟩; have AA3 := hid A3; have BB3 := hid (BB2.out.trans B3); clear A3 B3)
    refine bodyPost_ret (results_none rfl _ _ _) rfl ?_
    exact ⟨rfl, by simpa using AA3.out, BB3.out⟩
  | true =>
    by_cases hq : b.toNat = 34 ∨ b.toNat = 92
    · have e1 : escB b = [92, b] := by unfold escB; rw [hp, if_pos rfl, if_pos hq]
      rw [e1]
      have C1 := hid (WriteByte_any (b := 92) h (by omega))
      have c92 : ((92 : UInt8).toNat : Int) = 92 := by decide
      rw [c92] at C1
      have NB : Hid (∀ w1, Bd B (l ++ [92]) w1 → Calls Tryz.prog 132 #[ptr B, .int .u8 (b.toNat : Int)] w1 fun e w' => e = .returned .nilIface ∧ Bd B (l ++ [92] ++ [b]) w' ∧ Below B w1 w') := hid (fun w1 h1 => WriteByte_any (b := b) h1 (by simp; omega))
      clear e1 h c92
      by_cases h34 : b.toNat = 34
      · have bi : (b.toNat : Int) = 34 := by omega
        rw [bi] at P NB ⊢
        clear bi h34 hq
        go_enter Tryz.func180, Tryz.ntmps180
        go_wp2_with (first | (go_at_call 206; refine P.out.mono ?_; rintro e w1 ⟨rfl, rfl⟩; rw [hp]) | (go_at_call 132; refine C1.out.mono ?_; rintro e w1 ⟨rfl, A1, B1⟩; have C2 := hid (NB.out w1 A1); have BB1 := hid B1; clear A1 B1; refine Hid.out ?_))
        refine hid ?_
        go_wp2_with (go_at_call 132; refine C2.out.mono ?_; rintro e w2 ⟨rfl, A2, B2⟩; have AA2 := hid A2; have BB2 := hid (BB1.out.trans B2); clear A2 B2)
        go_end0
        exact ⟨rfl, by simpa using AA2.out, BB2.out⟩
      · have bi : (b.toNat : Int) = 92 := by omega
        rw [bi] at P NB ⊢
        clear bi h34 hq
        go_enter Tryz.func180, Tryz.ntmps180
        go_wp2_with (first | (go_at_call 206; refine P.out.mono ?_; rintro e w1 ⟨rfl, rfl⟩; rw [hp]) | (go_at_call 132; refine C1.out.mono ?_; rintro e w1 ⟨rfl, A1, B1⟩; have C2 := hid (NB.out w1 A1); have BB1 := hid B1; clear A1 B1; refine Hid.out ?_))
        refine hid ?_
        go_wp2_with (go_at_call 132; refine C2.out.mono ?_; rintro e w2 ⟨rfl, A2, B2⟩; have AA2 := hid A2; have BB2 := hid (BB1.out.trans B2); clear A2 B2)
        go_end0
        exact ⟨rfl, by simpa using AA2.out, BB2.out⟩
    · have e1 : escB b = [b] := by unfold escB; rw [hp, if_pos rfl, if_neg hq]
      rw [e1]
      have C1 := hid (WriteByte_any (b := b) h (by omega))
      have n34 : ((b.toNat : Int) == 34) = false := by simp; omega
      have n92 : ((b.toNat : Int) == 92) = false := by simp; omega
      clear e1 h hq hb
      generalize (b.toNat : Int) = bi at *
      go_enter Tryz.func180, Tryz.ntmps180
      go_wp2_with (first | (go_at_call 206; refine P.out.mono ?_; rintro e w1 ⟨rfl, rfl⟩; rw [hp]) | (go_at_call 132; refine C1.out.mono ?_; rintro e w1 ⟨rfl, A1, B1⟩; have AA1 := hid A1; have BB1 := hid B1; clear A1 B1))
      go_end0
      exact ⟨rfl, AA1.out, BB1.out⟩
end Go.Proofs.YtdhkdniddjnigaaGreatDoor

import Derived.Test.YthoppemjfdnibaaGreatDoorJ22
import Derived.Laws.Tables
namespace Go.Proofs.YthoppemjfdnibaaGreatDoor
open Go.RowKit Go.Lib
set_option linter.unusedVariables false
attribute [local go_sem] fieldP0 fieldP1

theorem All.setRow {g : Nat} {vs vs' : List Value} {t : TypeId} {cs : List Comp} {w : World} (h : All (blkC g vs t :: cs) w) : All (blkC g vs' t :: cs) (w.setRow g vs'.toArray) := by
  have hg : w.heap[g]? = some (.cells vs.toArray t (0, 0)) := h.1.2.1
  refine h.turn ⟨rfl, rfl, rfl, by simp [World.setRow], fun k hk hn => ?_⟩ (blkC_good _ _ _) (setRow_heap w g _ _ t (0, 0) hg) (fun k hk => Or.inl hk) (fun k hk => ?_)
  · exact setRow_other w g k _ (by simpa [blkC] using hn)
  · have : k = g := by simpa [blkC] using hk
    subst this
    simpa [World.setRow] using h.1.2.2 k (by simp [blkC])

def cP (p : Nat) : List Value := match p with
  | 0 => ((zM.cells.set 0 (.int .i64 5)).set 1 (.int .i64 1)).set 2 (.int .i64 0)
  | 1 => (((zM.cells.set 0 (.int .i64 5)).set 1 (.int .i64 1)).set 2 (.int .i64 0)).set 3 (.int .i64 300)
  | _ => pokM.cells

set_option maxHeartbeats 12800000 in
set_option maxRecDepth 1000000 in
theorem message_pok {br : Nat} {D : Option Nat} {rv : Value} {cs : List Comp} {w : World} (h : All (rdC br D rv (rP 0) :: cs) w) (hF : ∀ W, All cs W → Fld W) :
    Calls Tryz.prog 63 #[.agg #[.pointer (some ⟨br, 0, none⟩)]] w fun e w' => e = .returned (.agg pokM.cells.toArray) ∧ ∃ rv', All (rdC br D rv' (rP 5) :: cs) w' := by
  have A0 := ((h.addBlk [.pointer (some ⟨br, 0, none⟩)] 81).addBlk zM.cells 34).addBlk zM.cells 34
  have s1 : (w.alloc (.cells [Value.pointer (some ⟨br, 0, none⟩)].toArray 81)).heap.size = w.heap.size + 1 := by simp
  have s2 : ((w.alloc (.cells [Value.pointer (some ⟨br, 0, none⟩)].toArray 81)).alloc (.cells zM.cells.toArray 34)).heap.size = w.heap.size + 1 + 1 := by simp
  rw [s2, s1] at A0
  have eZ : zM.cells.toArray = #[.int .i64 0, .int .i64 0, .int .i64 0, .int .i64 0, .int .i64 0, .int .i64 0, .int .i64 0, .int .i64 0, .int .i64 0, .bool false, .int .i64 0, .string ⟨#[]⟩, .string ⟨#[]⟩, .int .i64 0, .int .i64 0, .int .i64 0, .int .i64 0, .slice none 0 0, .slice none 0 0, .int .i64 0, .int .i64 0, .slice none 0 0, .slice none 0 0] := rfl
  rw [eZ] at A0
  obtain ⟨X, hX⟩ : ∃ X, Hid (X = w.heap.size) := ⟨_, hid rfl⟩
  obtain ⟨RB, hRB⟩ : ∃ X, Hid (X = w.heap.size + 1) := ⟨_, hid rfl⟩
  obtain ⟨MB, hMB⟩ : ∃ X, Hid (X = w.heap.size + 1 + 1) := ⟨_, hid rfl⟩
  rw [← hMB.out, ← hRB.out, ← hX.out] at A0
  have A := hid (A0.perm (ds := rdC br D rv (rP 0) :: blkC MB zM.cells 34 :: blkC X [.pointer (some ⟨br, 0, none⟩)] 81 :: blkC RB zM.cells 34 :: cs) (by
    refine (List.perm_middle (a := rdC br D rv (rP 0)) (l₁ := [blkC MB zM.cells 34, blkC RB zM.cells 34, blkC X [.pointer (some ⟨br, 0, none⟩)] 81])).trans (List.Perm.cons _ (List.Perm.cons _ (List.Perm.swap _ _ _)))))
  have HF := hid hF
  have N0 := hid rP0
  have N1 := hid rP1
  have N2 := hid rP2
  clear h A0 s1 s2 eZ hF
  have x0 : _ := (by rw [cell_at A.out.tail.tail.1.2.1]; rfl : World.cell? _ ⟨X, 0, none⟩ = some (.pointer (some ⟨br, 0, none⟩)))
  go_enter Tryz.func63, Tryz.ntmps63
  go_wp2_with fail
  refine (numRd A.out (rP_size 0) 15).mono ?_
  rw [N0.out.1, N0.out.2]
  rintro e w1 ⟨rfl, v1, A1⟩
  have A1 := hid A1
  simp only [← hX.out]
  have e1 : X + 1 = RB := by rw [hX.out, hRB.out]
  have e2 : RB + 1 = MB := by rw [hRB.out, hMB.out]
  simp only [e1, e2]
  clear e1 e2
  clear x0
  have hb0 := A1.out.tail.1.2.1
  have q0 : w1.cell? ⟨MB, 0, none⟩ = some (.int .i64 0) := by rw [cell_at hb0]; rfl
  have q1 : w1.frozen? ⟨MB, 0, none⟩ = false := free_at hb0 0
  have x0 : w1.cell? ⟨X, 0, none⟩ = some (.pointer (some ⟨br, 0, none⟩)) := by rw [cell_at A1.out.tail.tail.1.2.1]; rfl
  have A2 := hid ((A1.out.swap.setBlk 0 (.int .i64 5)).swap)
  have x0' := (by rw [cell_at A2.out.tail.tail.1.2.1]; rfl : World.cell? (w1.setCell ⟨MB, 0, none⟩ (.int .i64 5)) ⟨X, 0, none⟩ = some (.pointer (some ⟨br, 0, none⟩)))
  clear hb0 A
  go_wp2_with fail
  refine (numRd A2.out (rP_size 1) 7).mono ?_
  rw [N1.out.1, N1.out.2]
  rintro e w2 ⟨rfl, v2, A3⟩
  have A3 := hid A3
  clear q0 q1 x0 x0' A1 A2
  have hb1 := A3.out.tail.1.2.1
  have q0 : w2.cell? ⟨MB, 1, none⟩ = some (.int .i64 0) := by rw [cell_at hb1]; rfl
  have q1 : w2.frozen? ⟨MB, 1, none⟩ = false := free_at hb1 1
  have x0 : w2.cell? ⟨X, 0, none⟩ = some (.pointer (some ⟨br, 0, none⟩)) := by rw [cell_at A3.out.tail.tail.1.2.1]; rfl
  have A4 := hid ((A3.out.swap.setBlk 1 (.int .i64 1)).swap)
  have x0' := (by rw [cell_at A4.out.tail.tail.1.2.1]; rfl : World.cell? (w2.setCell ⟨MB, 1, none⟩ (.int .i64 1)) ⟨X, 0, none⟩ = some (.pointer (some ⟨br, 0, none⟩)))
  clear hb1
  go_wp2_with fail
  refine (numRd A4.out (rP_size 2) 7).mono ?_
  rw [N2.out.1, N2.out.2]
  rintro e w3 ⟨rfl, v3, A5⟩
  have A5 := hid A5
  clear q0 q1 x0 x0' A3 A4
  have hb2 := A5.out.tail.1.2.1
  have q0 : w3.cell? ⟨MB, 2, none⟩ = some (.int .i64 0) := by rw [cell_at hb2]; rfl
  have q1 : w3.frozen? ⟨MB, 2, none⟩ = false := free_at hb2 2
  have x0 : w3.cell? ⟨X, 0, none⟩ = some (.pointer (some ⟨br, 0, none⟩)) := by rw [cell_at A5.out.tail.tail.1.2.1]; rfl
  have A6 : Hid (All (rdC br D v3 (rP 3) :: blkC MB (cP 0) 34 :: blkC X [.pointer (some ⟨br, 0, none⟩)] 81 :: blkC RB zM.cells 34 :: cs) (w3.setCell ⟨MB, 2, none⟩ (.int .i64 0))) := hid ((A5.out.swap.setBlk 2 (.int .i64 0)).swap)
  clear hb2 A5
  generalize hW4 : w3.setCell ⟨MB, 2, none⟩ (.int .i64 0) = w4 at A6
  have k0 : w4.cell? ⟨MB, 0, none⟩ = some (.int .i64 5) := by rw [cell_at A6.out.tail.1.2.1]; rfl
  have k1 := (HF.out _ A6.out.tail.tail.tail.tail).cell 5 (by omega)
  obtain ⟨IT, hIT⟩ : ∃ IT, Hid (IT = w4.heap.size) := ⟨_, hid rfl⟩
  have A7 : Hid (All (rdC br D v3 (rP 3) :: blkC MB (cP 0) 34 :: itC IT (fldS 5) 0 :: blkC X [.pointer (some ⟨br, 0, none⟩)] 81 :: blkC RB zM.cells 34 :: cs) (w4.iter (fldS 5) 0)) := hid (by
    have := A6.out.addIter (fldS 5)
    rw [← hIT.out] at this
    exact this.perm (List.perm_middle (l₁ := [rdC br D v3 (rP 3), blkC MB (cP 0) 34])).symm)
  have SI : Hid (∀ W v r c p, All (rdC br D v r :: blkC MB c 34 :: itC IT (fldS 5) p :: blkC X [.pointer (some ⟨br, 0, none⟩)] 81 :: blkC RB zM.cells 34 :: cs) W → W.cell? ⟨X, 0, none⟩ = some (.pointer (some ⟨br, 0, none⟩))) := hid (fun W v r c p hW => by rw [cell_at hW.tail.tail.tail.1.2.1]; rfl)
  go_wp2_with fail
  rw [← hIT.out]
  clear q0 q1 x0 k0 k1 A6 N0 N1 N2 hW4
  generalize w4.iter (fldS 5) 0 = w5 at A7 ⊢
  go_loopw [23] (fun u wr => ∃ (p : Nat) (v : Value), p ≤ 2 ∧ Hid (All (rdC br D v (rP (3 + p)) :: blkC MB (cP p) 34 :: itC IT (fldS 5) p :: blkC X [.pointer (some ⟨br, 0, none⟩)] 81 :: blkC RB zM.cells 34 :: cs) wr)) (fun u wr => 2 - wr.iterPos IT)
  case atStart => exact ⟨0, v3, by omega, A7⟩
  case round =>
    clear A7
    obtain ⟨p, v6, hp, HP⟩ := hrel
    have hi : wr.heap[IT]? = some (.stringIter (fldS 5) p) := HP.out.tail.tail.1.2.1
    have hm0 : Hid (wr.iterPos IT = p) := hid (iterPos_of hi)
    by_cases hlt : p < 2
    · obtain rfl | rfl : p = 0 ∨ p = 1 := by omega
      · have hn := run_next_ascii_at (P := Tryz.prog) wr IT (fldS 5) 0 0 hi (by decide) (by decide)
        have hl : Hid (((fldS 5)[0]'(by decide)).toNat = 86) := hid (by decide)
        have A6 : Hid (All (rdC br D v6 (rP 3) :: blkC MB (cP 0) 34 :: itC IT (fldS 5) 1 :: blkC X [.pointer (some ⟨br, 0, none⟩)] 81 :: blkC RB zM.cells 34 :: cs) (wr.iterAt IT (fldS 5) 1)) := hid (((HP.out.perm (List.perm_middle (l₁ := [rdC br D v6 (rP 3), blkC MB (cP 0) 34]))).stepIter 1).perm (List.perm_middle (l₁ := [rdC br D v6 (rP 3), blkC MB (cP 0) 34])).symm)
        have q0 := hid (SI.out _ _ _ _ _ A6.out.drew)
        clear HP hi
        go_wp2_with fail
        generalize wr.iterAt IT (fldS 5) 1 = w6 at A6 q0 ⊢
        clear hn
        simp only [hl.out]
        go_region_held3 (fun W => W.cell? ⟨X, 0, none⟩ = some (.pointer (some ⟨br, 0, none⟩))) (first | exact q0.out | exact z.out | exact z2.out)
          (first
            | (go_at_call 83; refine (field86 _).mono ?_; rintro e w7 ⟨rfl, B7⟩; have A7 := hid (A6.out.drew.later B7); have z := hid (SI.out _ _ _ _ _ A7.out))
            | (go_at_call 115; refine (r115 (x := .int .i64 0) A7.out (rP_size _) rfl).mono ?_; rintro e w8 ⟨rfl, v8, A8⟩; have A8 := hid A8; have z2 := hid (SI.out _ _ _ _ _ A8.out)))
        have A8 : Hid (All (rdC br D v8 (rP 4) :: blkC MB (cP 1) 34 :: itC IT (fldS 5) 1 :: blkC X [.pointer (some ⟨br, 0, none⟩)] 81 :: blkC RB zM.cells 34 :: cs) w8) := A8
        clear z z2 q0 A7 A6
        go_wp2
        go_roundw
        case rel => exact ⟨1, v8, by omega, A8⟩
        case measure => rw [hm0.out, iterPos_of (s := fldS 5) (p := 1) A8.out.tail.tail.1.2.1]; omega
      · have hn := run_next_ascii_at (P := Tryz.prog) wr IT (fldS 5) 1 0 hi (by decide) (by decide)
        have hl : Hid (((fldS 5)[1]'(by decide)).toNat = 75) := hid (by decide)
        have A6 : Hid (All (rdC br D v6 (rP 4) :: blkC MB (cP 1) 34 :: itC IT (fldS 5) 2 :: blkC X [.pointer (some ⟨br, 0, none⟩)] 81 :: blkC RB zM.cells 34 :: cs) (wr.iterAt IT (fldS 5) 2)) := hid (((HP.out.perm (List.perm_middle (l₁ := [rdC br D v6 (rP 4), blkC MB (cP 1) 34]))).stepIter 2).perm (List.perm_middle (l₁ := [rdC br D v6 (rP 4), blkC MB (cP 1) 34])).symm)
        have q0 := hid (SI.out _ _ _ _ _ A6.out.drew)
        clear HP hi
        go_wp2_with fail
        generalize wr.iterAt IT (fldS 5) 2 = w6 at A6 q0 ⊢
        clear hn
        simp only [hl.out]
        go_region_held3 (fun W => W.cell? ⟨X, 0, none⟩ = some (.pointer (some ⟨br, 0, none⟩))) (first | exact q0.out | exact z.out | exact z2.out)
          (first
            | (go_at_call 83; refine (field75 _).mono ?_; rintro e w7 ⟨rfl, B7⟩; have A7 := hid (A6.out.drew.later B7); have z := hid (SI.out _ _ _ _ _ A7.out))
            | (go_at_call 117; refine (r117 (x := .int .i64 0) A7.out (rP_size _) rfl).mono ?_; rintro e w8 ⟨rfl, v8, A8⟩; have A8 := hid A8; have z2 := hid (SI.out _ _ _ _ _ A8.out)))
        have A8 : Hid (All (rdC br D v8 (rP 5) :: blkC MB (cP 2) 34 :: itC IT (fldS 5) 2 :: blkC X [.pointer (some ⟨br, 0, none⟩)] 81 :: blkC RB zM.cells 34 :: cs) w8) := A8
        clear z z2 q0 A7 A6
        go_wp2
        go_roundw
        case rel => exact ⟨2, v8, by omega, A8⟩
        case measure => rw [hm0.out, iterPos_of (s := fldS 5) (p := 2) A8.out.tail.tail.1.2.1]; omega
    · obtain rfl : p = 2 := by omega
      have hn := run_next_end_at (P := Tryz.prog) wr IT (fldS 5) 2 0 hi (by decide)
      have M2 : Hid (wr.heap[MB]? = some (.cells pokM.cells.toArray 34 (0, 0))) := hid HP.out.tail.1.2.1
      have R2 : Hid (wr.heap[RB]? = some (.cells zM.cells.toArray 34 (0, 0))) := hid HP.out.tail.tail.tail.tail.1.2.1
      have I34 : Hid ((Tryz.prog.info? 34).map (·.size) = some pokM.cells.toArray.size) := hid (by kernel_rfl)
      have O34 : Hid (pokM.cells.toArray.all (·.oneCell') = true) := hid (by kernel_rfl)
      have Z34 : Hid (zM.cells.toArray.size = pokM.cells.toArray.size) := hid (by decide)
      have AF := hid ((HP.out.perm (ds := blkC RB zM.cells 34 :: rdC br D v6 (rP 5) :: blkC MB (cP 2) 34 :: itC IT (fldS 5) 2 :: blkC X [.pointer (some ⟨br, 0, none⟩)] 81 :: cs) (List.perm_middle (l₁ := [rdC br D v6 (rP 5), blkC MB (cP 2) 34, itC IT (fldS 5) 2, blkC X [.pointer (some ⟨br, 0, none⟩)] 81]))).setRow (vs' := pokM.cells))
      generalize hPC : pokM.cells = PC at *
      go_wp2_with (first | (refine wpList_load_row rfl 34 _ rfl MB rfl 34 PC.toArray (0, 0) _ M2.out Tryz.underlying34 rfl I34.out ?_) | (refine wpList_store_row rfl 34 _ _ rfl RB PC.toArray rfl rfl 34 _ R2.out I34.out Z34.out O34.out ?_))
      refine bodyPost_ret (v := .agg PC.toArray) (results_cell_row (fn := Tryz.f63) rfl _ _ RB 34 PC.toArray (0, 0) _ rfl AF.out.1.2.1 Tryz.underlying34 rfl I34.out) rfl ?_
      refine ⟨by rw [hPC], v6, ?_⟩
      have := AF.out.tail
      exact (((this.swap.tail).swap.tail).swap.tail)
end Go.Proofs.YthoppemjfdnibaaGreatDoor

namespace Go.Proofs.YthoppemjfdnibaaGreatDoor
open Go.RowKit
set_option linter.unusedVariables false

/-- An entry. -/
structure Ent where
  c : Int
  n : Int
  k : Int
  nm : ByteArray
  tx : ByteArray
  m : Int
  q : Int
def Ent.cells (e : Ent) : List Value := [.int .i64 e.c, .int .i64 e.n, .int .i64 e.k, .string e.nm, .string e.tx, .int .i64 e.m, .int .i64 e.q]
abbrev Ent.V (e : Ent) : Value := .agg #[.int .i64 e.c, .int .i64 e.n, .int .i64 e.k, .string e.nm, .string e.tx, .int .i64 e.m, .int .i64 e.q]
/-- Entries that are read. -/
def Ents (w : World) (ao : Option Addr) (l : List Ent) : Prop := ∀ (i : Nat) (x : Ent), l[i]? = some x → ∃ g o, ao = some ⟨g, o, none⟩ ∧ g < w.heap.size ∧ ∀ j u, x.cells[j]? = some u → w.cell? ⟨g, o + i * 7 + j, none⟩ = some u
theorem Ents.later {w w' : World} {ao : Option Addr} {l : List Ent} (h : Ents w ao l) (hb : Below w.heap.size w w') : Ents w' ao l := by
  intro i x hx
  obtain ⟨g, o, ea, hg, hc⟩ := h i x hx
  exact ⟨g, o, ea, Nat.lt_of_lt_of_le hg hb.size, fun j u hu => cell_under hb hg (hc j u hu)⟩
/-- May an entry be? -/
def entB (x : Ent) : Bool := decide (0 ≤ x.c ∧ x.c ≤ 7 ∧ 1 ≤ x.n ∧ x.n ≤ 1099511627776 ∧ chkA x.k x.nm.size x.tx.size x.m x.q = 0)
set_option maxHeartbeats 1600000 in
set_option maxRecDepth 1000000 in
theorem ents_any {w : World} (hT : Tab w) {ao : Option Addr} {l : List Ent} (h : Ents w ao l) (cp : Nat) (hl : l.length ≤ 9223372036854775807) : Calls Tryz.prog 145 #[.slice ao l.length cp] w fun e w' => e = .returned (.bool (l.all entB)) ∧ Below w.heap.size w w' := by
  have HE := hid h
  have HT := hid hT
  clear h hT
  go_enter Tryz.func145, Tryz.ntmps145
  go_wp2
  go_loopw [7] (fun iv wr => ∃ k : Nat, iv = .int .i64 (k : Int) ∧ k ≤ l.length ∧ Hid (∀ j (hj : j < k) (hl : j < l.length), entB l[j] = true) ∧ Hid (Below w.heap.size w wr)) (fun iv _ => l.length - (intOf iv).toNat)
  case atStart => exact ⟨0, rfl, Nat.zero_le _, fun j hj => absurd hj (by omega), hid (Below.refl _ _)⟩
  case round =>
    obtain ⟨k, rfl, hk, hbef, hB⟩ := hrel
    by_cases hlt : k < l.length
    · obtain ⟨x, hx⟩ : ∃ x, Hid (l[k]'hlt = x) := ⟨_, hid rfl⟩
      obtain ⟨g, o, ea, hg, hc⟩ := (HE.out.later hB.out) k x (by rw [List.getElem?_eq_getElem hlt, hx.out])
      subst ea
      have el : decide ((k : Int) < (l.length : Int)) = true := by simpa using hlt
      have r0 : wr.cell? ⟨g, o + k * 7, none⟩ = some (.int .i64 x.c) := hc 0 _ rfl
      have r1 : wr.cell? ⟨g, o + k * 7 + 1, none⟩ = some (.int .i64 x.n) := hc 1 _ rfl
      have r2 : wr.cell? ⟨g, o + k * 7 + 2, none⟩ = some (.int .i64 x.k) := hc 2 _ rfl
      have r3 : wr.cell? ⟨g, o + k * 7 + 3, none⟩ = some (.string x.nm) := hc 3 _ rfl
      have r4 : wr.cell? ⟨g, o + k * 7 + 4, none⟩ = some (.string x.tx) := hc 4 _ rfl
      have r5 : wr.cell? ⟨g, o + k * 7 + 5, none⟩ = some (.int .i64 x.m) := hc 5 _ rfl
      have r6 : wr.cell? ⟨g, o + k * 7 + 6, none⟩ = some (.int .i64 x.q) := hc 6 _ rfl
      have BA : Hid (∀ ob, Below w.heap.size w (wr.alloc ob)) := hid (fun ob => hB.out.trans ((ba wr ob).mono hB.out.size))
      have CK : Hid (∀ W, Below w.heap.size w W → Calls Tryz.prog 104 #[opV x.k x.nm x.tx x.m x.q] W fun e w' => e = .returned (.int .i64 (chkA x.k x.nm.size x.tx.size x.m x.q)) ∧ Below w.heap.size w w') := hid (fun W hW => by
        refine (check_any (HT.out.below hW) x.k x.nm x.tx x.m x.q).mono ?_
        rintro e w' ⟨rfl, hb⟩
        exact ⟨rfl, hW.trans (hb.mono hW.size)⟩)
      have NO : Hid (entB x = false → l.all entB = false) := hid (fun hf => by
        rw [List.all_eq_false]
        exact ⟨x, by rw [← hx.out]; exact List.getElem_mem hlt, by simp [hf]⟩)
      clear hc hB
      by_cases c0 : x.c < 0
      · have F := hid (NO.out (by simp only [entB, decide_eq_false_iff_not]; omega))
        have e0 : decide (x.c < 0) = true := by simpa using c0
        clear c0
        go_wp2
        go_ret
        exact ⟨by rw [F.out]; rfl, BA.out _⟩
      have e0 : decide (x.c < 0) = false := by simpa using c0
      by_cases c1 : 8 ≤ x.c
      · have F := hid (NO.out (by simp only [entB, decide_eq_false_iff_not]; omega))
        have e1 : decide (8 ≤ x.c) = true := by simpa using c1
        clear c0 c1
        go_wp2
        go_ret
        exact ⟨by rw [F.out]; rfl, BA.out _⟩
      have e1 : decide (8 ≤ x.c) = false := by simpa using c1
      by_cases c2 : x.n < 1
      · have F := hid (NO.out (by simp only [entB, decide_eq_false_iff_not]; omega))
        have e2 : decide (x.n < 1) = true := by simpa using c2
        clear c0 c1 c2
        go_wp2
        go_ret
        exact ⟨by rw [F.out]; rfl, BA.out _⟩
      have e2 : decide (x.n < 1) = false := by simpa using c2
      by_cases c3 : 1099511627776 < x.n
      · have F := hid (NO.out (by simp only [entB, decide_eq_false_iff_not]; omega))
        have e3 : decide (1099511627776 < x.n) = true := by simpa using c3
        clear c0 c1 c2 c3
        go_wp2
        go_ret
        exact ⟨by rw [F.out]; rfl, BA.out _⟩
      have e3 : decide (1099511627776 < x.n) = false := by simpa using c3
      have Y : Hid (chkA x.k x.nm.size x.tx.size x.m x.q = 0 → entB x = true) := hid (fun h => by simp only [entB, decide_eq_true_eq]; omega)
      have N : Hid (chkA x.k x.nm.size x.tx.size x.m x.q ≠ 0 → entB x = false) := hid (fun h => by simp only [entB, decide_eq_false_iff_not]; omega)
      clear c0 c1 c2 c3
      generalize chkA x.k x.nm.size x.tx.size x.m x.q = z at CK Y N
      go_wp2_with (go_at_call 104; refine (CK.out _ (BA.out _)).mono ?_; rintro e w1 ⟨rfl, hB1⟩; have B1 := hid hB1; clear hB1; by_cases hz : (z != 0) = true)
      · have F := hid (NO.out (N.out (by simpa using hz)))
        go_wp2
        go_ret
        exact ⟨by rw [F.out]; rfl, B1.out⟩
      · have hz' : (z != 0) = false := by simpa using hz
        have F := hid (Y.out (by simpa using hz))
        clear hz
        go_wp2
        go_roundw
        case rel => exact ⟨k + 1, by go_num, by omega, fun j hj hl => by rcases Nat.lt_succ_iff_lt_or_eq.1 hj with h | h; exact hbef.out j h hl; subst h; rw [hx.out]; exact F.out, B1⟩
        case measure => simp [intOf]; omega
    · have el : decide ((k : Int) < (l.length : Int)) = false := by simp; omega
      go_wp2
      go_ret
      exact ⟨by rw [List.all_eq_true.2]; rfl; intro y hy; obtain ⟨j, hj, rfl⟩ := List.getElem_of_mem hy; exact hbef.out j (by omega) hj, hB.out⟩
end Go.Proofs.YthoppemjfdnibaaGreatDoor

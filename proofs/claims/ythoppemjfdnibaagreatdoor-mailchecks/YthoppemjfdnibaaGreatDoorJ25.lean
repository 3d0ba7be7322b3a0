import Derived.Test.YthoppemjfdnibaaGreatDoorJ24
import Derived.Great.BuildSlice
import Derived.Test.YthoppemjfdnibaaGreatDoorJ23
namespace Go.Proofs.YthoppemjfdnibaaGreatDoor
open Go.RowKit
set_option linter.unusedVariables false

theorem wpList_load_row_at {P : Program} {ops : Array Oper} {rest : List Oper} {o : Oper} {a : Act} {w : World} {Q : Exit → Act → World → Prop} (hw : Region.wanted o (yielded ops a.tmps) = true) (ty : TypeId) (x : Operand) (ho : o.op = .load ty x)
    (g : Nat) (hx : a.eval x = .pointer (some ⟨g, 0, none⟩)) (t : TypeId) (cs : Array Value) (fr : Nat × Nat) (d : TypeDesc) (hg : w.heap[g]? = some (.cells cs t fr))
    (hu : P.underlying ty = some d) (hd : (match d with | .struct _ | .array _ _ => true | _ => false) = true) (hi : (P.info? ty).map (·.size) = some cs.size)
    (h : wpList P ops Q rest (a.put o.dst (.agg cs)) w) : wpList P ops Q (o :: rest) a w :=
  wpList_step fun K hK => by
    rw [if_pos hw]
    exact wp_load_row ty x ho g hx t cs fr d hg hu hd hi (hK _ _ h)

theorem wpList_build_at {P : Program} {ops : Array Oper} {rest : List Oper} {o : Oper} {a : Act} {w : World} {Q : Exit → Act → World → Prop} (hw : Region.wanted o (yielded ops a.tmps) = true) (t : TypeId) (parts : Array (Nat × Operand)) (ho : o.op = .build t parts)
    (cells : Array Value) (hf : P.built t (parts.map fun (i, x) => (i, a.eval x)).toList = some cells)
    (h : wpList P ops Q rest (a.put o.dst (.agg cells)) w) : wpList P ops Q (o :: rest) a w :=
  wpList_step fun K hK => by
    rw [if_pos hw]
    unfold Oper.wp execOp
    simp only [ho, Sem.run_bind, run_build w t _ _ hf, Result.andThen_ok]
    exact hK _ _ h

theorem reads_lit (w : World) (vs : Array Value) (l : List UInt8) (n : Nat) (hn : n = l.length) (h : vs = (cellsB l).toArray) : Reads (w.alloc (.cells vs 5)) (.slice (some ⟨w.heap.size, 0, none⟩) n n) l := by
  subst h
  subst hn
  refine ⟨_, l.length, rfl, Nat.le_refl _, Or.inr ⟨w.heap.size, 0, rfl, by simp, fun j u hu => ?_⟩⟩
  rw [cell_at (heap_alloc_new w _), Nat.zero_add]
  simpa using hu

set_option maxHeartbeats 6400000 in
set_option maxRecDepth 1000000 in
/-- The document's first examples. -/
theorem shown_any {w : World} (hT : Tab w) (hF : Fld w) : Calls Tryz.prog 9 #[] w fun e w' => e = .returned (.bool true) ∧ Below w.heap.size w w' := by
  have A := hid ((All.came w).addBlk reqM.cells 34)
  have HT : Hid (∀ W cs, All cs W → inC w ∈ cs → Tab W ∧ Fld W) := hid (fun W cs h hm => ⟨hT.below (h.into hm), hF.below (h.into hm)⟩)
  have I34 : Hid ((Tryz.prog.info? 34).map (·.size) = some reqM.cells.toArray.size) := hid (by kernel_rfl)
  have J34 : Hid ((Tryz.prog.info? 34).map (·.size) = some pokM.cells.toArray.size) := hid (by kernel_rfl)
  have O34 : Hid (pokM.cells.toArray.all (·.oneCell') = true) := hid (by kernel_rfl)
  have Z34 : Hid (((#[.int .i64 0, .int .i64 0, .int .i64 0, .int .i64 0, .int .i64 0, .int .i64 0, .int .i64 0, .int .i64 0, .int .i64 0, .bool false, .int .i64 0, .string ⟨#[]⟩, .string ⟨#[]⟩, .int .i64 0, .int .i64 0, .int .i64 0, .int .i64 0, .slice none 0 0, .slice none 0 0, .int .i64 0, .int .i64 0, .slice none 0 0, .slice none 0 0]) : Array Value).size = pokM.cells.toArray.size) := hid (by decide)
  have P34 : Hid (reqM.cells.toArray.all (·.oneCell') = true) := hid (by kernel_rfl)
  have Y34 : Hid (((#[.int .i64 0, .int .i64 0, .int .i64 0, .int .i64 0, .int .i64 0, .int .i64 0, .int .i64 0, .int .i64 0, .int .i64 0, .bool false, .int .i64 0, .string ⟨#[]⟩, .string ⟨#[]⟩, .int .i64 0, .int .i64 0, .int .i64 0, .int .i64 0, .slice none 0 0, .slice none 0 0, .int .i64 0, .int .i64 0, .slice none 0 0, .slice none 0 0]) : Array Value).size = reqM.cells.toArray.size) := hid (by decide)
  have e0 : Hid ((w.alloc (.cells #[.int .i64 0, .int .i64 0, .int .i64 0, .int .i64 0, .int .i64 0, .int .i64 0, .int .i64 0, .int .i64 0, .int .i64 0, .bool false, .int .i64 0, .string ⟨#[]⟩, .string ⟨#[]⟩, .int .i64 0, .int .i64 0, .int .i64 0, .int .i64 0, .slice none 0 0, .slice none 0 0, .int .i64 0, .int .i64 0, .slice none 0 0, .slice none 0 0] 34)).setRow w.heap.size reqM.cells.toArray = w.alloc (.cells reqM.cells.toArray 34)) := hid (World.setRow_alloc_new _ _ _ _)
  have n0 : Hid ((w.alloc (.cells #[.int .i64 0, .int .i64 0, .int .i64 0, .int .i64 0, .int .i64 0, .int .i64 0, .int .i64 0, .int .i64 0, .int .i64 0, .bool false, .int .i64 0, .string ⟨#[]⟩, .string ⟨#[]⟩, .int .i64 0, .int .i64 0, .int .i64 0, .int .i64 0, .slice none 0 0, .slice none 0 0, .int .i64 0, .int .i64 0, .slice none 0 0, .slice none 0 0] 34)).heap[w.heap.size]? = some (.cells #[.int .i64 0, .int .i64 0, .int .i64 0, .int .i64 0, .int .i64 0, .int .i64 0, .int .i64 0, .int .i64 0, .int .i64 0, .bool false, .int .i64 0, .string ⟨#[]⟩, .string ⟨#[]⟩, .int .i64 0, .int .i64 0, .int .i64 0, .int .i64 0, .slice none 0 0, .slice none 0 0, .int .i64 0, .int .i64 0, .slice none 0 0, .slice none 0 0] 34 (0, 0))) := hid (heap_alloc_new _ _)
  have BR : Hid (Tryz.prog.built 34 [(0, .int .i64 1), (1, .int .i64 7), (2, .int .i64 2), (8, .int .i64 1), (10, .agg #[.int .i64 1, .string ⟨#[113]⟩, .string ⟨#[]⟩, .int .i64 0, .int .i64 0])] = some reqM.cells.toArray) := hid (by kernel_rfl)
  have BP : Hid (Tryz.prog.built 34 [(0, .int .i64 5), (1, .int .i64 1), (3, .int .i64 300), (4, .int .i64 5)] = some pokM.cells.toArray) := hid (by kernel_rfl)
  have EN : Hid (∀ (W : World) (cs : List Comp), All cs W → inC w ∈ cs → Calls Tryz.prog 18 #[.int .i64 3, .agg reqM.cells.toArray] W fun e w' => ∃ so sc, e = .returned (.tuple #[.slice so 7 sc, .int .i64 0]) ∧ All (ownC 5 (.slice so 7 sc) (cellsB [1, 7, 2, 1, 1, 1, 113]) :: cs) w') := hid (fun W cs h hm => encode_req h (fun W hW => (HT.out W _ hW hm).1) (fun W hW => (HT.out W _ hW hm).2))
  have DE : Hid (∀ (W : World) (cs : List Comp) (s : Value), All cs W → inC w ∈ cs → Reads W s [5, 1, 0, 172, 2, 5] → Calls Tryz.prog 25 #[.int .i64 3, s] W fun e w' => e = .returned (.tuple #[.agg pokM.cells.toArray, .int .i64 0]) ∧ All cs w') := hid (fun W cs s h hm hr => decode_pok h hr (fun W hW => (HT.out W _ hW hm).1) (fun W hW => (HT.out W _ hW hm).2))
  have SM : Hid (∀ W : World, Calls Tryz.prog 27 #[.agg pokM.cells.toArray, .agg pokM.cells.toArray] W fun e w' => e = .returned (.bool true) ∧ Below W.heap.size W w') := hid (fun W => sameMsg_pok)
  clear hT hF
  go_enter Tryz.func9, Tryz.ntmps9
  go_upto_region 2 with (first | (refine wpList_buildTo rfl 34 _ rfl (some 6) rfl reqM.cells.toArray (by kernel_rfl) ?_) | (refine wpList_store_row rfl 34 _ _ rfl w.heap.size reqM.cells.toArray rfl rfl 34 _ n0.out I34.out Y34.out P34.out ?_))
  generalize hRC : reqM.cells = RC at *
  generalize hPC : pokM.cells = PC at *
  have HPC := hid hPC
  clear hRC hPC
  rw [e0.out]
  have M0 : Hid ((w.alloc (.cells RC.toArray 34)).heap[w.heap.size]? = some (.cells RC.toArray 34 (0, 0))) := hid (heap_alloc_new _ _)
  generalize w.alloc (.cells RC.toArray 34) = w1 at A M0 ⊢
  go_wp2_with (refine wpList_load_row rfl 34 _ rfl w.heap.size rfl 34 RC.toArray (0, 0) _ M0.out Tryz.underlying34 rfl I34.out ?_)
  refine (EN.out _ _ A.out (by simp)).mono ?_
  rintro e w2 ⟨so, sc, rfl, A2⟩
  have A2 := hid A2
  have R2 : Hid (Reads (w2.alloc (.cells #[.int .u8 1, .int .u8 7, .int .u8 2, .int .u8 1, .int .u8 1, .int .u8 1, .int .u8 113] 5)) (.slice so 7 sc) [1, 7, 2, 1, 1, 1, 113]) := hid ((Reads.of_owns (l := [1, 7, 2, 1, 1, 1, 113]) A2.out.1.2.1).below (ba _ _))
  have R3 : Hid (Reads (w2.alloc (.cells #[.int .u8 1, .int .u8 7, .int .u8 2, .int .u8 1, .int .u8 1, .int .u8 1, .int .u8 113] 5)) (.slice (some ⟨w2.heap.size, 0, none⟩) 7 7) [1, 7, 2, 1, 1, 1, 113]) := hid (reads_lit w2 _ _ 7 rfl rfl)
  clear A M0 EN BR e0 n0 I34 Y34 P34
  go_wp2_with fail
  refine (same_true R2.out R3.out (by decide)).mono ?_
  rintro e w3 ⟨rfl, B3⟩
  have A3 := hid ((A2.out.alloc (.cells #[.int .u8 1, .int .u8 7, .int .u8 2, .int .u8 1, .int .u8 1, .int .u8 1, .int .u8 113] 5)).later B3)
  clear A2 R2 R3 B3
  have R4 : Hid (Reads (w3.alloc (.cells #[.int .u8 5, .int .u8 1, .int .u8 0, .int .u8 172, .int .u8 2, .int .u8 5] 5)) (.slice (some ⟨w3.heap.size, 0, none⟩) 6 6) [5, 1, 0, 172, 2, 5]) := hid (reads_lit w3 _ _ 6 rfl rfl)
  have A4 := hid (A3.out.alloc (.cells #[.int .u8 5, .int .u8 1, .int .u8 0, .int .u8 172, .int .u8 2, .int .u8 5] 5))
  go_wp2_with fail
  refine (DE.out _ _ _ A4.out (by simp) R4.out).mono ?_
  rintro e w5 ⟨rfl, A5⟩
  have A5 := hid A5
  obtain ⟨K, hK⟩ : ∃ K, Hid (K = w5.heap.size) := ⟨_, hid rfl⟩
  have A6 := hid (A5.out.alloc (.cells PC.toArray 34))
  have eK : Hid ((w5.alloc (.cells #[.int .i64 0, .int .i64 0, .int .i64 0, .int .i64 0, .int .i64 0, .int .i64 0, .int .i64 0, .int .i64 0, .int .i64 0, .bool false, .int .i64 0, .string ⟨#[]⟩, .string ⟨#[]⟩, .int .i64 0, .int .i64 0, .int .i64 0, .int .i64 0, .slice none 0 0, .slice none 0 0, .int .i64 0, .int .i64 0, .slice none 0 0, .slice none 0 0] 34)).setRow K PC.toArray = w5.alloc (.cells PC.toArray 34)) := hid (by rw [hK.out]; exact World.setRow_alloc_new _ _ _ _)
  have hKn : Hid ((w5.alloc (.cells #[.int .i64 0, .int .i64 0, .int .i64 0, .int .i64 0, .int .i64 0, .int .i64 0, .int .i64 0, .int .i64 0, .int .i64 0, .bool false, .int .i64 0, .string ⟨#[]⟩, .string ⟨#[]⟩, .int .i64 0, .int .i64 0, .int .i64 0, .int .i64 0, .slice none 0 0, .slice none 0 0, .int .i64 0, .int .i64 0, .slice none 0 0, .slice none 0 0] 34)).heap[K]? = some (.cells #[.int .i64 0, .int .i64 0, .int .i64 0, .int .i64 0, .int .i64 0, .int .i64 0, .int .i64 0, .int .i64 0, .int .i64 0, .bool false, .int .i64 0, .string ⟨#[]⟩, .string ⟨#[]⟩, .int .i64 0, .int .i64 0, .int .i64 0, .int .i64 0, .slice none 0 0, .slice none 0 0, .int .i64 0, .int .i64 0, .slice none 0 0, .slice none 0 0] 34 (0, 0))) := hid (by rw [hK.out]; exact heap_alloc_new _ _)
  have M6 : Hid ((w5.alloc (.cells PC.toArray 34)).heap[K]? = some (.cells PC.toArray 34 (0, 0))) := hid (by rw [hK.out]; exact heap_alloc_new _ _)
  clear A3 A4 R4 A5 DE
  go_upto_region 6 with (refine wpList_store_row rfl 34 _ _ rfl K PC.toArray (by rw [hK.out]; rfl) rfl 34 _ hKn.out J34.out Z34.out O34.out ?_)
  rw [eK.out, ← hK.out]
  generalize w5.alloc (.cells PC.toArray 34) = w6 at A6 M6 ⊢
  clear eK hKn
  go_wp2_with (first | (refine wpList_load_row_at (by rfl) 34 _ rfl K rfl 34 PC.toArray (0, 0) _ M6.out Tryz.underlying34 rfl J34.out ?_) | (refine wpList_build_at (by rfl) 34 _ rfl PC.toArray (by rw [← HPC.out]; kernel_rfl) ?_) | (go_at_call 27; refine (SM.out _).mono ?_; rintro e w7 ⟨rfl, B7⟩; have A7 := hid (A6.out.later B7); clear B7))
  go_ret
  exact ⟨rfl, A7.out.into (by simp)⟩

set_option maxRecDepth 1000000 in
/-- THE LAW: which kinds clients send and are told. -/
theorem kinds_any {w : World} (hT : Tab w) (hF : Fld w) (k : Int) : Calls Tryz.prog 3 #[.int .i64 k] w fun e w' => e = .returned (.bool true) ∧ Below w.heap.size w w' := by
  have S := hid (shown_any hT hF)
  have C10 : Hid (∀ W : World, Calls Tryz.prog 10 #[.int .i64 k] W fun e w' => e = .returned (.bool (decide (k = 1 ∨ k = 14))) ∧ w' = W) := hid (fun W => from_any k)
  have C11 : Hid (∀ W : World, Calls Tryz.prog 11 #[.int .i64 k] W fun e w' => e = .returned (.bool (decide (k = 2 ∨ k = 3 ∨ k = 15))) ∧ w' = W) := hid (fun W => to_any k)
  have C12 : Hid (∀ W : World, Calls Tryz.prog 12 #[.int .i64 k] W fun e w' => e = .returned (.bool (decide (k = 1 ∨ k = 14))) ∧ w' = W) := hid (fun W => rfrom_any k)
  have C13 : Hid (∀ W : World, Calls Tryz.prog 13 #[.int .i64 k] W fun e w' => e = .returned (.bool (decide (k = 2 ∨ k = 3 ∨ k = 15))) ∧ w' = W) := hid (fun W => rto_any k)
  generalize decide (k = 1 ∨ k = 14) = x at C10 C12
  generalize decide (k = 2 ∨ k = 3 ∨ k = 15) = y at C11 C13
  have hx : (x == x) = true := by simp
  have hy : (y == y) = true := by simp
  clear hT hF
  go_enter Tryz.func3, Tryz.ntmps3
  go_wp2_with fail
  refine S.out.mono ?_
  rintro e w1 ⟨rfl, B1⟩
  have B1 := hid B1
  clear S
  go_wp2_with (first | (go_at_call 10; refine (C10.out _).mono ?_; rintro e w' ⟨rfl, rfl⟩) | (go_at_call 11; refine (C11.out _).mono ?_; rintro e w' ⟨rfl, rfl⟩) | (go_at_call 12; refine (C12.out _).mono ?_; rintro e w' ⟨rfl, rfl⟩) | (go_at_call 13; refine (C13.out _).mono ?_; rintro e w' ⟨rfl, rfl⟩))
  go_ret
  exact ⟨rfl, B1.out⟩
end Go.Proofs.YthoppemjfdnibaaGreatDoor

namespace Go.Proofs.YthoppemjfdnibaaGreatDoor
open Go.RowKit
set_option linter.unusedVariables false

/-- A sheet. -/
structure Sh where
  n : Int
  a : Int
  da : Option Addr
  dl : Nat
  dp : Nat
def Sh.cells (s : Sh) : List Value := [.int .i64 s.n, .int .i64 s.a, .slice s.da s.dl s.dp]
/-- Sheets that are read. -/
def Shs (w : World) (ao : Option Addr) (l : List Sh) : Prop := ∀ (i : Nat) (x : Sh), l[i]? = some x → ∃ g o, ao = some ⟨g, o, none⟩ ∧ g < w.heap.size ∧ ∀ j u, x.cells[j]? = some u → w.cell? ⟨g, o + i * 3 + j, none⟩ = some u
theorem Shs.later {w w' : World} {ao : Option Addr} {l : List Sh} (h : Shs w ao l) (hb : Below w.heap.size w w') : Shs w' ao l := by
  intro i x hx
  obtain ⟨g, o, ea, hg, hc⟩ := h i x hx
  exact ⟨g, o, ea, Nat.lt_of_lt_of_le hg hb.size, fun j u hu => cell_under hb hg (hc j u hu)⟩
/-- May sheets be, behind the last? -/
def shsB (f b : Int) : Int → List Sh → Bool
  | _, [] => true
  | p, s :: l => decide (p < s.n ∧ s.n ≤ 15 ∧ f < s.a ∧ s.a ≤ b ∧ (s.dl : Int) ≤ 2304) && shsB f b s.n l
set_option maxHeartbeats 1600000 in
set_option maxRecDepth 1000000 in
theorem sheets_any {w : World} (f b : Int) {sa : Option Addr} {l : List Sh} (h : Shs w sa l) (sp : Nat) (xa : Option Addr) (xl xp : Nat) (hl : l.length ≤ 9223372036854775807) : Calls Tryz.prog 144 #[cgV f b sa l.length sp xa xl xp] w fun e w' => e = .returned (.bool (shsB f b (-1) l)) ∧ Below w.heap.size w w' := by
  have HE := hid h
  clear h
  go_enter Tryz.func144, Tryz.ntmps144
  go_wp2
  have q0 : Hid ((w.alloc (.cells #[.int .i64 f, .int .i64 b, .slice sa l.length sp, .slice xa xl xp] 32)).cell? ⟨w.heap.size, 0, none⟩ = some (.int .i64 f)) := hid (by simp)
  have q1 : Hid ((w.alloc (.cells #[.int .i64 f, .int .i64 b, .slice sa l.length sp, .slice xa xl xp] 32)).cell? ⟨w.heap.size, 1, none⟩ = some (.int .i64 b)) := hid (by simp)
  have bw := hid (ba w (.cells #[.int .i64 f, .int .i64 b, .slice sa l.length sp, .slice xa xl xp] 32))
  have ws : Hid ((w.alloc (.cells #[.int .i64 f, .int .i64 b, .slice sa l.length sp, .slice xa xl xp] 32)).heap.size = w.heap.size + 1) := hid (by simp)
  obtain ⟨K, hK⟩ : ∃ K, Hid (K = w.heap.size) := ⟨_, hid rfl⟩
  rw [← hK.out] at q0 q1 ⊢
  generalize w.alloc (.cells #[.int .i64 f, .int .i64 b, .slice sa l.length sp, .slice xa xl xp] 32) = w0 at q0 q1 bw ws ⊢
  go_loopw [3, 9] (fun lv iv wr => ∃ (k : Nat) (p : Int), lv = .int .i64 p ∧ iv = .int .i64 (k : Int) ∧ k ≤ l.length ∧ Hid (shsB f b (-1) l = shsB f b p (l.drop k)) ∧ Hid (Below w0.heap.size w0 wr)) (fun _ iv _ => l.length - (intOf iv).toNat)
  case atStart => exact ⟨0, -1, rfl, rfl, Nat.zero_le _, hid rfl, hid (Below.refl _ _)⟩
  case round =>
    obtain ⟨k, p, rfl, rfl, hk, hS, hB⟩ := hrel
    have BW : Hid (∀ W, Below w0.heap.size w0 W → Below w.heap.size w W) := hid (fun W hW => bw.out.trans (hW.mono bw.out.size))
    by_cases hlt : k < l.length
    · obtain ⟨x, hx⟩ : ∃ x, Hid (l[k]'hlt = x) := ⟨_, hid rfl⟩
      obtain ⟨g, o, ea, hg, hc⟩ := ((HE.out.later bw.out).later hB.out) k x (by rw [List.getElem?_eq_getElem hlt, hx.out])
      subst ea
      have el : decide ((k : Int) < (l.length : Int)) = true := by simpa using hlt
      have r0 : wr.cell? ⟨g, o + k * 3, none⟩ = some (.int .i64 x.n) := hc 0 _ rfl
      have r1 : wr.cell? ⟨g, o + k * 3 + 1, none⟩ = some (.int .i64 x.a) := hc 1 _ rfl
      have r2 : wr.cell? ⟨g, o + k * 3 + 2, none⟩ = some (.slice x.da x.dl x.dp) := hc 2 _ rfl
      have t0 : wr.cell? ⟨K, 0, none⟩ = some (.int .i64 f) := cell_under hB.out (by rw [ws.out]; have := hK.out; show K < _; omega) q0.out
      have t1 : wr.cell? ⟨K, 1, none⟩ = some (.int .i64 b) := cell_under hB.out (by rw [ws.out]; have := hK.out; show K < _; omega) q1.out
      have hKw : K < wr.heap.size := by have := hK.out; have := ws.out; have := hB.out.size; omega
      have BA : Hid (∀ ob, Below w0.heap.size w0 (wr.alloc ob)) := hid (fun ob => hB.out.trans ((ba wr ob).mono hB.out.size))
      have ST : Hid (shsB f b (-1) l = (decide (p < x.n ∧ x.n ≤ 15 ∧ f < x.a ∧ x.a ≤ b ∧ (x.dl : Int) ≤ 2304) && shsB f b x.n (l.drop (k + 1)))) := hid (by rw [hS.out, List.drop_eq_getElem_cons hlt, hx.out]; rfl)
      clear hc hB hS
      by_cases c0 : x.n ≤ p
      · have F : Hid (shsB f b (-1) l = false) := hid (by rw [ST.out, decide_eq_false (by omega)]; rfl)
        have e0 : decide (x.n ≤ p) = true := by simpa using c0
        clear c0
        go_wp2
        go_ret
        exact ⟨by rw [F.out]; rfl, BW.out _ (BA.out _)⟩
      have e0 : decide (x.n ≤ p) = false := by simpa using c0
      by_cases c1 : 16 ≤ x.n
      · have F : Hid (shsB f b (-1) l = false) := hid (by rw [ST.out, decide_eq_false (by omega)]; rfl)
        have e1 : decide (16 ≤ x.n) = true := by simpa using c1
        clear c0 c1
        go_wp2
        go_ret
        exact ⟨by rw [F.out]; rfl, BW.out _ (BA.out _)⟩
      have e1 : decide (16 ≤ x.n) = false := by simpa using c1
      by_cases c2 : x.a ≤ f
      · have F : Hid (shsB f b (-1) l = false) := hid (by rw [ST.out, decide_eq_false (by omega)]; rfl)
        have e2 : decide (x.a ≤ f) = true := by simpa using c2
        clear c0 c1 c2
        go_wp2
        go_ret
        exact ⟨by rw [F.out]; rfl, BW.out _ (BA.out _)⟩
      have e2 : decide (x.a ≤ f) = false := by simpa using c2
      by_cases c3 : b < x.a
      · have F : Hid (shsB f b (-1) l = false) := hid (by rw [ST.out, decide_eq_false (by omega)]; rfl)
        have e3 : decide (b < x.a) = true := by simpa using c3
        clear c0 c1 c2 c3
        go_wp2
        go_ret
        exact ⟨by rw [F.out]; rfl, BW.out _ (BA.out _)⟩
      have e3 : decide (b < x.a) = false := by simpa using c3
      by_cases c4 : (2304 : Int) < (x.dl : Int)
      · have F : Hid (shsB f b (-1) l = false) := hid (by rw [ST.out, decide_eq_false (by omega)]; rfl)
        have e4 : decide ((2304 : Int) < (x.dl : Int)) = true := by simpa using c4
        clear c0 c1 c2 c3 c4
        go_wp2
        go_ret
        exact ⟨by rw [F.out]; rfl, BW.out _ (BA.out _)⟩
      have e4 : decide ((2304 : Int) < (x.dl : Int)) = false := by simpa using c4
      have F : Hid (shsB f b (-1) l = shsB f b x.n (l.drop (k + 1))) := hid (by rw [ST.out, decide_eq_true (by omega), Bool.true_and])
      clear c0 c1 c2 c3 c4
      go_wp2
      go_roundw
      case rel => exact ⟨k + 1, x.n, rfl, by go_num, by omega, F, hid (BA.out _)⟩
      case measure => simp [intOf]; omega
    · have el : decide ((k : Int) < (l.length : Int)) = false := by simp; omega
      have F : Hid (shsB f b (-1) l = true) := hid (by rw [hS.out, List.drop_of_length_le (by omega)]; rfl)
      go_wp2
      go_ret
      exact ⟨by rw [F.out]; rfl, BW.out _ hB.out⟩
end Go.Proofs.YthoppemjfdnibaaGreatDoor

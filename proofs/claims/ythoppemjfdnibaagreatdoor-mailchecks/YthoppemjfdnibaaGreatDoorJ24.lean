import Derived.Test.YthoppemjfdnibaaGreatDoorJ23
import Derived.Deep.Draws
import Derived.Deep.WholeRow
namespace Go.Proofs.YthoppemjfdnibaaGreatDoor
open Go.RowKit
set_option linter.unusedVariables false

theorem Reads.at_u8 {w : World} {ao : Option Addr} {n c : Nat} {l : List UInt8} (h : Reads w (.slice ao n c) l) (k : Nat) (hk : k < l.length) : ∃ g o, ao = some ⟨g, o, none⟩ ∧ w.cell? ⟨g, o + k, none⟩ = some (.int .u8 ((l.getD k 0).toNat : Int)) := h.at k hk

set_option maxHeartbeats 1600000 in
set_option maxRecDepth 1000000 in
/-- Lists that are alike. -/
theorem same_true {w : World} {s t : Value} {l : List UInt8} (hs : Reads w s l) (ht : Reads w t l) (hlen : l.length ≤ 140737488355328) :
    Calls Tryz.prog 20 #[s, t] w fun e w' => e = .returned (.bool true) ∧ Below w.heap.size w w' := by
  obtain ⟨ao, c, hf⟩ := hs.form
  obtain ⟨ao', c', hf'⟩ := ht.form
  subst hf hf'
  have HS := hid hs
  have HT := hid ht
  clear hs ht
  go_enter Tryz.func20, Tryz.ntmps20
  go_wp2
  go_loopw [5] (fun iv wr => ∃ (k q : Nat), k ≤ l.length ∧ iv = .int .i64 (k : Int) ∧ wr = w.drewN q) (fun iv _ => l.length - (intOf iv).toNat)
  case atStart => exact ⟨0, 0, by omega, rfl, rfl⟩
  case round =>
    obtain ⟨k, q, hk, rfl, rfl⟩ := hrel
    by_cases hlt : k < l.length
    · obtain ⟨g, o, rfl, h1⟩ := HS.out.at_u8 k hlt
      obtain ⟨g', o', rfl, h2⟩ := HT.out.at_u8 k hlt
      generalize (l.getD k 0).toNat = x at h1 h2
      have hb : ((x : Int) != (x : Int)) = false := by simp
      go_wp2
      go_region
      go_wp2
      go_roundw
      case rel => exact ⟨k + 1, q + 1, by omega, by go_num, by simp⟩
      case measure => simp [intOf]; omega
    · go_wp2
      go_ret
      exact ⟨rfl, ⟨rfl, rfl, rfl, Nat.le_refl _, fun _ _ => rfl⟩⟩


theorem newR {s : Value} {l : List UInt8} {cs : List Comp} {w : World} (h : All cs w) (hr : Reads w s l) (hlen : l.length ≤ 140737488355328) : Calls Tryz.prog 62 #[s] w fun e w' => ∃ b D rv, e = .returned (.pointer (some ⟨b, 0, none⟩)) ∧ All (rdC b D rv ⟨l, 0, 0⟩ :: cs) w' :=
  (NewReader_any hr hlen).mono fun e w' ⟨b, D, rv, h1, h2, h3, h4, h5⟩ => ⟨b, D, rv, h1, h.add (Fr.below h3) (rdC_good _ _ _ _) h2 (fun k hk => by
    simp [rdC] at hk
    rcases hk with rfl | hk
    · exact ⟨h4, h2.lt⟩
    · exact h5 k hk)⟩
set_option maxRecDepth 1000000 in
theorem close0 {b : Nat} {D : Option Nat} {rv : Value} {pl : Nat} {cs : List Comp} {w : World} (h : All (rdC b D rv ⟨[], pl, 0⟩ :: cs) w) : Calls Tryz.prog 64 #[.pointer (some ⟨b, 0, none⟩)] w fun e w' => e = .returned (.int .i64 0) ∧ All (rdC b D rv ⟨[], pl, 0⟩ :: cs) w' := by
  have hR : Rd w b D rv [] pl 0 := h.1.2.1
  obtain ⟨ao, c, hf⟩ := hR.reads.form
  subst hf
  have c0 : w.cell? ⟨b, 0, none⟩ = some (.slice ao ([] : List UInt8).length c) := by rw [cell_at hR.box]; rfl
  have c2 : w.cell? ⟨b, 2, none⟩ = some (.int .i64 0) := by rw [cell_at hR.box]; rfl
  have HH := hid h
  clear h hR
  go_enter Tryz.func64, Tryz.ntmps64
  go_wp2
  go_ret
  exact ⟨rfl, HH.out⟩

theorem res25 {tmps : Array Value} {w : World} {b : Nat} {C : Array Value} {e : Value} (ht : tmps.getD 4 undef = .pointer (some ⟨b, 0, none⟩)) (h5 : tmps.getD 5 undef = e) (h : w.heap[b]? = some (.cells C 34 (0, 0))) (hi : (Tryz.prog.info? 34).map (·.size) = some C.size) : (results Tryz.f25 tmps).run Tryz.prog w = .ok (.tuple #[.agg C, e]) w := by
  have hp' : tmps[4]?.getD undef = .pointer (some ⟨b, 0, none⟩) := by simpa using ht
  have hp5 : tmps[5]?.getD undef = e := by simpa using h5
  have hres : Tryz.f25.results = #[.cell 4 34, .tmp 5] := rfl
  simp [results, hp', hp5, asAddr, run_loadVar_row w b 34 34 C (0, 0) _ h Tryz.underlying34 rfl hi]

set_option maxHeartbeats 6400000 in
set_option maxRecDepth 1000000 in
/-- The second example. -/
theorem decode_pok {s : Value} {cs : List Comp} {w : World} (h : All cs w) (hr : Reads w s [5, 1, 0, 172, 2, 5]) (hT : ∀ W, All cs W → Tab W) (hF : ∀ W, All cs W → Fld W) : Calls Tryz.prog 25 #[.int .i64 3, s] w fun e w' => e = .returned (.tuple #[.agg pokM.cells.toArray, .int .i64 0]) ∧ All cs w' := by
  have A0 := h.addBlk zM.cells 34
  have eZ : zM.cells.toArray = #[.int .i64 0, .int .i64 0, .int .i64 0, .int .i64 0, .int .i64 0, .int .i64 0, .int .i64 0, .int .i64 0, .int .i64 0, .bool false, .int .i64 0, .string ⟨#[]⟩, .string ⟨#[]⟩, .int .i64 0, .int .i64 0, .int .i64 0, .int .i64 0, .slice none 0 0, .slice none 0 0, .int .i64 0, .int .i64 0, .slice none 0 0, .slice none 0 0] := rfl
  rw [eZ] at A0
  obtain ⟨RB, hRB⟩ : ∃ X, Hid (X = w.heap.size) := ⟨_, hid rfl⟩
  rw [← hRB.out] at A0
  have A := hid A0
  have HR := hid (hr.below (ba w (.cells #[.int .i64 0, .int .i64 0, .int .i64 0, .int .i64 0, .int .i64 0, .int .i64 0, .int .i64 0, .int .i64 0, .int .i64 0, .bool false, .int .i64 0, .string ⟨#[]⟩, .string ⟨#[]⟩, .int .i64 0, .int .i64 0, .int .i64 0, .int .i64 0, .slice none 0 0, .slice none 0 0, .int .i64 0, .int .i64 0, .slice none 0 0, .slice none 0 0] 34)))
  obtain ⟨sa, sc, hs⟩ := hr.form
  subst hs
  have HT := hid hT
  have HF := hid hF
  have C31 : Hid (∀ W : World, Calls Tryz.prog 31 #[.int .i64 3] W fun e w' => e = .returned (.bool true) ∧ w' = W) := hid (fun W => fleet_any 3)
  have I34 : Hid ((Tryz.prog.info? 34).map (·.size) = some pokM.cells.toArray.size) := hid (by kernel_rfl)
  have O34 : Hid (pokM.cells.toArray.all (·.oneCell') = true) := hid (by kernel_rfl)
  have Z34 : Hid (zM.cells.toArray.size = pokM.cells.toArray.size) := hid (by decide)
  have Z34' : Hid (((#[.int .i64 0, .int .i64 0, .int .i64 0, .int .i64 0, .int .i64 0, .int .i64 0, .int .i64 0, .int .i64 0, .int .i64 0, .bool false, .int .i64 0, .string ⟨#[]⟩, .string ⟨#[]⟩, .int .i64 0, .int .i64 0, .int .i64 0, .int .i64 0, .slice none 0 0, .slice none 0 0, .int .i64 0, .int .i64 0, .slice none 0 0, .slice none 0 0]) : Array Value).size = pokM.cells.toArray.size) := hid (by decide)
  clear h hr hT hF A0 eZ
  go_enter Tryz.func25, Tryz.ntmps25
  go_wp2_with fail
  refine (C31.out _).mono ?_
  rintro e w1 ⟨rfl, hw1⟩
  have A : Hid (All (blkC RB zM.cells 34 :: cs) w1) := hid (by rw [hw1]; exact A.out)
  have HR : Hid (Reads w1 (.slice sa 6 sc) [5, 1, 0, 172, 2, 5]) := hid (by rw [hw1]; exact HR.out)
  rw [← hRB.out]
  clear hw1 C31
  go_wp2_with fail
  refine (newR A.out HR.out (by decide)).mono ?_
  rintro e w2 ⟨br, D, rv, rfl, A2⟩
  obtain ⟨Y, hY⟩ : ∃ Y, Hid (Y = w2.heap.size) := ⟨_, hid rfl⟩
  have A3 := hid ((A2.addBlk [.pointer (some ⟨br, 0, none⟩)] 81).swap)
  rw [← hY.out] at A3
  clear A2 A HR
  go_wp2_with fail
  refine (message_pok A3.out (fun W hW => HF.out W hW.tail.tail)).mono ?_
  rintro e w3 ⟨rfl, v3, A4⟩
  rw [← hY.out]
  obtain ⟨K, hK⟩ : ∃ K, Hid (K = w3.heap.size) := ⟨_, hid rfl⟩
  have A5 := hid (A4.addBlk pokM.cells 34)
  rw [← hK.out] at A5
  have eK : Hid ((w3.alloc (.cells #[.int .i64 0, .int .i64 0, .int .i64 0, .int .i64 0, .int .i64 0, .int .i64 0, .int .i64 0, .int .i64 0, .int .i64 0, .bool false, .int .i64 0, .string ⟨#[]⟩, .string ⟨#[]⟩, .int .i64 0, .int .i64 0, .int .i64 0, .int .i64 0, .slice none 0 0, .slice none 0 0, .int .i64 0, .int .i64 0, .slice none 0 0, .slice none 0 0] 34)).setRow K pokM.cells.toArray = w3.alloc (.cells pokM.cells.toArray 34)) := hid (by rw [hK.out]; exact World.setRow_alloc_new _ _ _ _)
  have hKn : Hid ((w3.alloc (.cells #[.int .i64 0, .int .i64 0, .int .i64 0, .int .i64 0, .int .i64 0, .int .i64 0, .int .i64 0, .int .i64 0, .int .i64 0, .bool false, .int .i64 0, .string ⟨#[]⟩, .string ⟨#[]⟩, .int .i64 0, .int .i64 0, .int .i64 0, .int .i64 0, .slice none 0 0, .slice none 0 0, .int .i64 0, .int .i64 0, .slice none 0 0, .slice none 0 0] 34)).heap[K]? = some (.cells #[.int .i64 0, .int .i64 0, .int .i64 0, .int .i64 0, .int .i64 0, .int .i64 0, .int .i64 0, .int .i64 0, .int .i64 0, .bool false, .int .i64 0, .string ⟨#[]⟩, .string ⟨#[]⟩, .int .i64 0, .int .i64 0, .int .i64 0, .int .i64 0, .slice none 0 0, .slice none 0 0, .int .i64 0, .int .i64 0, .slice none 0 0, .slice none 0 0] 34 (0, 0))) := hid (by rw [hK.out]; exact heap_alloc_new _ _)
  have y0 : (w3.alloc (.cells pokM.cells.toArray 34)).cell? ⟨Y, 0, none⟩ = some (.pointer (some ⟨br, 0, none⟩)) := by rw [cell_at A5.out.tail.tail.1.2.1]; rfl
  have CP : Hid (∀ W : World, Tab W → Fld W → Calls Tryz.prog 15 #[.int .i64 3, .agg pokM.cells.toArray] W fun e w' => e = .returned (.int .i64 0) ∧ Below W.heap.size W w') := hid (fun W h1 h2 => check_pok h1 h2)
  clear A3 A4
  generalize hPC : pokM.cells = PC at *
  go_upto_region 5 with (first | (refine wpList_store_row rfl 34 _ _ rfl K PC.toArray (by rw [hK.out]; rfl) rfl 34 _ hKn.out I34.out Z34'.out O34.out ?_))
  rw [eK.out, ← hK.out]
  generalize hW4 : w3.alloc (.cells PC.toArray 34) = w4 at A5 y0 ⊢
  clear hW4 eK hKn
  go_wp2_with fail
  refine (close0 (pl := 6) A5.out.swap).mono ?_
  rintro e w5 ⟨rfl, A6⟩
  have A6 := hid A6.swap
  have M2 : Hid (w5.heap[K]? = some (.cells PC.toArray 34 (0, 0))) := hid A6.out.1.2.1
  have CK := hid (CP.out w5 (HT.out _ A6.out.tail.tail.tail.tail) (HF.out _ A6.out.tail.tail.tail.tail))
  clear A5 y0 CP
  go_wp2_with (refine wpList_load_row rfl 34 _ rfl K rfl 34 PC.toArray (0, 0) _ M2.out Tryz.underlying34 rfl I34.out ?_)
  refine CK.out.mono ?_
  rintro e w6 ⟨rfl, B6⟩
  have A7 := A6.out.later B6
  have M3 : Hid (w6.heap[K]? = some (.cells PC.toArray 34 (0, 0))) := hid A7.1.2.1
  have R3 : Hid (w6.heap[RB]? = some (.cells zM.cells.toArray 34 (0, 0))) := hid A7.tail.tail.tail.1.2.1
  have AF := hid ((A7.perm (List.perm_middle (a := blkC RB zM.cells 34) (l₁ := [blkC K PC 34, rdC br D v3 ⟨[], 6, 0⟩, blkC Y [.pointer (some ⟨br, 0, none⟩)] 81]))).setRow (vs' := PC))
  clear A7 B6 CK M2 A6
  go_wp2_with (first | (refine wpList_load_row rfl 34 _ rfl K rfl 34 PC.toArray (0, 0) _ M3.out Tryz.underlying34 rfl I34.out ?_) | (refine wpList_store_row rfl 34 _ _ rfl RB PC.toArray rfl rfl 34 _ R3.out I34.out Z34.out O34.out ?_))
  refine bodyPost_ret (v := .tuple #[.agg PC.toArray, .int .i64 0]) (res25 (b := RB) rfl rfl AF.out.1.2.1 I34.out) rfl ?_
  exact ⟨by rw [hPC], AF.out.tail.tail.tail.tail⟩
end Go.Proofs.YthoppemjfdnibaaGreatDoor

namespace Go.Proofs.YthoppemjfdnibaaGreatDoor
open Go.RowKit
set_option linter.unusedVariables false

set_option maxRecDepth 1000000 in
theorem sameOp69 {w : World} (k : Int) (nm tx : ByteArray) (n m : Int) : Calls Tryz.prog 69 #[opV k nm tx n m, opV k nm tx n m] w fun e w' => e = .returned (.bool true) ∧ Below w.heap.size w w' := by
  have h1 : (nm.toList == nm.toList) = true := by simp
  have h2 : (tx.toList == tx.toList) = true := by simp
  go_enter Tryz.func69, Tryz.ntmps69
  go_wp2
  go_ret
  exact ⟨rfl, b2 (ba _ _) (ba _ _)⟩
set_option maxRecDepth 1000000 in
theorem nil70 {w : World} : Calls Tryz.prog 70 #[.slice none 0 0, .slice none 0 0] w fun e w' => e = .returned (.bool true) ∧ w' = w := by
  go_enter Tryz.func70, Tryz.ntmps70
  go_wp2
  go_loopw [5] (fun iv wr => iv = .int .i64 0 ∧ wr = w) (fun iv _ => 0)
  case atStart => exact ⟨rfl, rfl⟩
  case round =>
    obtain ⟨rfl, rfl⟩ := hrel
    go_wp2
    go_ret
    exact ⟨rfl, rfl⟩
set_option maxRecDepth 1000000 in
theorem nil71 {w : World} : Calls Tryz.prog 71 #[.slice none 0 0, .slice none 0 0] w fun e w' => e = .returned (.bool true) ∧ w' = w := by
  go_enter Tryz.func71, Tryz.ntmps71
  go_wp2
  go_loopw [5] (fun iv wr => iv = .int .i64 0 ∧ wr = w) (fun iv _ => 0)
  case atStart => exact ⟨rfl, rfl⟩
  case round =>
    obtain ⟨rfl, rfl⟩ := hrel
    go_wp2
    go_ret
    exact ⟨rfl, rfl⟩
set_option maxRecDepth 1000000 in
theorem nil72 {w : World} : Calls Tryz.prog 72 #[.slice none 0 0, .slice none 0 0] w fun e w' => e = .returned (.bool true) ∧ w' = w := by
  go_enter Tryz.func72, Tryz.ntmps72
  go_wp2
  go_loopw [5] (fun iv wr => iv = .int .i64 0 ∧ wr = w) (fun iv _ => 0)
  case atStart => exact ⟨rfl, rfl⟩
  case round =>
    obtain ⟨rfl, rfl⟩ := hrel
    go_wp2
    go_ret
    exact ⟨rfl, rfl⟩

set_option maxHeartbeats 6400000 in
set_option maxRecDepth 1000000 in
theorem sameMsg_pok {w : World} : Calls Tryz.prog 27 #[.agg pokM.cells.toArray, .agg pokM.cells.toArray] w fun e w' => e = .returned (.bool true) ∧ Below w.heap.size w w' := by
  obtain ⟨b1, hb1⟩ : ∃ b, Hid (b = w.heap.size) := ⟨_, hid rfl⟩
  obtain ⟨b2', hb2⟩ : ∃ b, Hid (b = w.heap.size + 1) := ⟨_, hid rfl⟩
  have W2 : Hid (MsAt ((w.alloc (.cells pokM.cells.toArray 34)).alloc (.cells pokM.cells.toArray 34)) b1 pokM ∧ MsAt ((w.alloc (.cells pokM.cells.toArray 34)).alloc (.cells pokM.cells.toArray 34)) b2' pokM ∧ Below w.heap.size w ((w.alloc (.cells pokM.cells.toArray 34)).alloc (.cells pokM.cells.toArray 34))) := hid (by
    refine ⟨by rw [hb1.out]; exact (MsAt.new w pokM).under (ba _ _), ?_, b2 (ba _ _) (ba _ _)⟩
    have := MsAt.new (w.alloc (.cells pokM.cells.toArray 34)) pokM
    simp only [World.size_alloc] at this
    rw [hb2.out]
    exact this)
  generalize hPC : pokM.cells.toArray = PC at W2 ⊢
  go_enter Tryz.func27, Tryz.ntmps27
  go_upto_region 1 with fail
  simp only [← hb1.out]
  have e2 : b1 + 1 = b2' := by rw [hb1.out, hb2.out]
  simp only [e2]
  clear e2
  generalize (w.alloc (.cells PC 34)).alloc (.cells PC 34) = w2 at W2 ⊢
  clear hPC
  have c0 : w2.cell? ⟨b1, 0, none⟩ = some (.int .i64 5) := W2.out.1 0 _ rfl
  have c1 : w2.cell? ⟨b1, 1, none⟩ = some (.int .i64 1) := W2.out.1 1 _ rfl
  have c2 : w2.cell? ⟨b1, 2, none⟩ = some (.int .i64 0) := W2.out.1 2 _ rfl
  have c3 : w2.cell? ⟨b1, 3, none⟩ = some (.int .i64 300) := W2.out.1 3 _ rfl
  have c4 : w2.cell? ⟨b1, 4, none⟩ = some (.int .i64 5) := W2.out.1 4 _ rfl
  have c5 : w2.cell? ⟨b1, 5, none⟩ = some (.int .i64 0) := W2.out.1 5 _ rfl
  have c6 : w2.cell? ⟨b1, 6, none⟩ = some (.int .i64 0) := W2.out.1 6 _ rfl
  have c7 : w2.cell? ⟨b1, 7, none⟩ = some (.int .i64 0) := W2.out.1 7 _ rfl
  have c8 : w2.cell? ⟨b1, 8, none⟩ = some (.int .i64 0) := W2.out.1 8 _ rfl
  have c9 : w2.cell? ⟨b1, 9, none⟩ = some (.bool false) := W2.out.1 9 _ rfl
  have c10 : w2.cell? ⟨b1, 10, none⟩ = some (.int .i64 0) := W2.out.1 10 _ rfl
  have c11 : w2.cell? ⟨b1, 11, none⟩ = some (.string ⟨#[]⟩) := W2.out.1 11 _ rfl
  have c12 : w2.cell? ⟨b1, 12, none⟩ = some (.string ⟨#[]⟩) := W2.out.1 12 _ rfl
  have c13 : w2.cell? ⟨b1, 13, none⟩ = some (.int .i64 0) := W2.out.1 13 _ rfl
  have c14 : w2.cell? ⟨b1, 14, none⟩ = some (.int .i64 0) := W2.out.1 14 _ rfl
  have c15 : w2.cell? ⟨b1, 15, none⟩ = some (.int .i64 0) := W2.out.1 15 _ rfl
  have c16 : w2.cell? ⟨b1, 16, none⟩ = some (.int .i64 0) := W2.out.1 16 _ rfl
  have c17 : w2.cell? ⟨b1, 17, none⟩ = some (.slice none 0 0) := W2.out.1 17 _ rfl
  have c18 : w2.cell? ⟨b1, 18, none⟩ = some (.slice none 0 0) := W2.out.1 18 _ rfl
  have c19 : w2.cell? ⟨b1, 19, none⟩ = some (.int .i64 0) := W2.out.1 19 _ rfl
  have c20 : w2.cell? ⟨b1, 20, none⟩ = some (.int .i64 0) := W2.out.1 20 _ rfl
  have c21 : w2.cell? ⟨b1, 21, none⟩ = some (.slice none 0 0) := W2.out.1 21 _ rfl
  have c22 : w2.cell? ⟨b1, 22, none⟩ = some (.slice none 0 0) := W2.out.1 22 _ rfl
  have d0 : w2.cell? ⟨b2', 0, none⟩ = some (.int .i64 5) := W2.out.2.1 0 _ rfl
  have d1 : w2.cell? ⟨b2', 1, none⟩ = some (.int .i64 1) := W2.out.2.1 1 _ rfl
  have d2 : w2.cell? ⟨b2', 2, none⟩ = some (.int .i64 0) := W2.out.2.1 2 _ rfl
  have d3 : w2.cell? ⟨b2', 3, none⟩ = some (.int .i64 300) := W2.out.2.1 3 _ rfl
  have d4 : w2.cell? ⟨b2', 4, none⟩ = some (.int .i64 5) := W2.out.2.1 4 _ rfl
  have d5 : w2.cell? ⟨b2', 5, none⟩ = some (.int .i64 0) := W2.out.2.1 5 _ rfl
  have d6 : w2.cell? ⟨b2', 6, none⟩ = some (.int .i64 0) := W2.out.2.1 6 _ rfl
  have d7 : w2.cell? ⟨b2', 7, none⟩ = some (.int .i64 0) := W2.out.2.1 7 _ rfl
  have d8 : w2.cell? ⟨b2', 8, none⟩ = some (.int .i64 0) := W2.out.2.1 8 _ rfl
  have d9 : w2.cell? ⟨b2', 9, none⟩ = some (.bool false) := W2.out.2.1 9 _ rfl
  have d10 : w2.cell? ⟨b2', 10, none⟩ = some (.int .i64 0) := W2.out.2.1 10 _ rfl
  have d11 : w2.cell? ⟨b2', 11, none⟩ = some (.string ⟨#[]⟩) := W2.out.2.1 11 _ rfl
  have d12 : w2.cell? ⟨b2', 12, none⟩ = some (.string ⟨#[]⟩) := W2.out.2.1 12 _ rfl
  have d13 : w2.cell? ⟨b2', 13, none⟩ = some (.int .i64 0) := W2.out.2.1 13 _ rfl
  have d14 : w2.cell? ⟨b2', 14, none⟩ = some (.int .i64 0) := W2.out.2.1 14 _ rfl
  have d15 : w2.cell? ⟨b2', 15, none⟩ = some (.int .i64 0) := W2.out.2.1 15 _ rfl
  have d16 : w2.cell? ⟨b2', 16, none⟩ = some (.int .i64 0) := W2.out.2.1 16 _ rfl
  have d17 : w2.cell? ⟨b2', 17, none⟩ = some (.slice none 0 0) := W2.out.2.1 17 _ rfl
  have d18 : w2.cell? ⟨b2', 18, none⟩ = some (.slice none 0 0) := W2.out.2.1 18 _ rfl
  have d19 : w2.cell? ⟨b2', 19, none⟩ = some (.int .i64 0) := W2.out.2.1 19 _ rfl
  have d20 : w2.cell? ⟨b2', 20, none⟩ = some (.int .i64 0) := W2.out.2.1 20 _ rfl
  have d21 : w2.cell? ⟨b2', 21, none⟩ = some (.slice none 0 0) := W2.out.2.1 21 _ rfl
  have d22 : w2.cell? ⟨b2', 22, none⟩ = some (.slice none 0 0) := W2.out.2.1 22 _ rfl
  go_wp2_with fail
  refine (sameOp69 0 ⟨#[]⟩ ⟨#[]⟩ 0 0).mono ?_
  rintro e w3 ⟨rfl, B3⟩
  have W3 : Hid (MsAt w3 b1 pokM ∧ MsAt w3 b2' pokM ∧ Below w.heap.size w w3) := hid ⟨W2.out.1.under B3, W2.out.2.1.under B3, b2 W2.out.2.2 B3⟩
  clear c0 c1 c2 c3 c4 c5 c6 c7 c8 c9 c10 c11 c12 c13 c14 c15 c16 c17 c18 c19 c20 c21 c22 d0 d1 d2 d3 d4 d5 d6 d7 d8 d9 d10 d11 d12 d13 d14 d15 d16 d17 d18 d19 d20 d21 d22 B3 W2
  have c0 : w3.cell? ⟨b1, 0, none⟩ = some (.int .i64 5) := W3.out.1 0 _ rfl
  have c1 : w3.cell? ⟨b1, 1, none⟩ = some (.int .i64 1) := W3.out.1 1 _ rfl
  have c2 : w3.cell? ⟨b1, 2, none⟩ = some (.int .i64 0) := W3.out.1 2 _ rfl
  have c3 : w3.cell? ⟨b1, 3, none⟩ = some (.int .i64 300) := W3.out.1 3 _ rfl
  have c4 : w3.cell? ⟨b1, 4, none⟩ = some (.int .i64 5) := W3.out.1 4 _ rfl
  have c5 : w3.cell? ⟨b1, 5, none⟩ = some (.int .i64 0) := W3.out.1 5 _ rfl
  have c6 : w3.cell? ⟨b1, 6, none⟩ = some (.int .i64 0) := W3.out.1 6 _ rfl
  have c7 : w3.cell? ⟨b1, 7, none⟩ = some (.int .i64 0) := W3.out.1 7 _ rfl
  have c8 : w3.cell? ⟨b1, 8, none⟩ = some (.int .i64 0) := W3.out.1 8 _ rfl
  have c9 : w3.cell? ⟨b1, 9, none⟩ = some (.bool false) := W3.out.1 9 _ rfl
  have c10 : w3.cell? ⟨b1, 10, none⟩ = some (.int .i64 0) := W3.out.1 10 _ rfl
  have c11 : w3.cell? ⟨b1, 11, none⟩ = some (.string ⟨#[]⟩) := W3.out.1 11 _ rfl
  have c12 : w3.cell? ⟨b1, 12, none⟩ = some (.string ⟨#[]⟩) := W3.out.1 12 _ rfl
  have c13 : w3.cell? ⟨b1, 13, none⟩ = some (.int .i64 0) := W3.out.1 13 _ rfl
  have c14 : w3.cell? ⟨b1, 14, none⟩ = some (.int .i64 0) := W3.out.1 14 _ rfl
  have c15 : w3.cell? ⟨b1, 15, none⟩ = some (.int .i64 0) := W3.out.1 15 _ rfl
  have c16 : w3.cell? ⟨b1, 16, none⟩ = some (.int .i64 0) := W3.out.1 16 _ rfl
  have c17 : w3.cell? ⟨b1, 17, none⟩ = some (.slice none 0 0) := W3.out.1 17 _ rfl
  have c18 : w3.cell? ⟨b1, 18, none⟩ = some (.slice none 0 0) := W3.out.1 18 _ rfl
  have c19 : w3.cell? ⟨b1, 19, none⟩ = some (.int .i64 0) := W3.out.1 19 _ rfl
  have c20 : w3.cell? ⟨b1, 20, none⟩ = some (.int .i64 0) := W3.out.1 20 _ rfl
  have c21 : w3.cell? ⟨b1, 21, none⟩ = some (.slice none 0 0) := W3.out.1 21 _ rfl
  have c22 : w3.cell? ⟨b1, 22, none⟩ = some (.slice none 0 0) := W3.out.1 22 _ rfl
  have d0 : w3.cell? ⟨b2', 0, none⟩ = some (.int .i64 5) := W3.out.2.1 0 _ rfl
  have d1 : w3.cell? ⟨b2', 1, none⟩ = some (.int .i64 1) := W3.out.2.1 1 _ rfl
  have d2 : w3.cell? ⟨b2', 2, none⟩ = some (.int .i64 0) := W3.out.2.1 2 _ rfl
  have d3 : w3.cell? ⟨b2', 3, none⟩ = some (.int .i64 300) := W3.out.2.1 3 _ rfl
  have d4 : w3.cell? ⟨b2', 4, none⟩ = some (.int .i64 5) := W3.out.2.1 4 _ rfl
  have d5 : w3.cell? ⟨b2', 5, none⟩ = some (.int .i64 0) := W3.out.2.1 5 _ rfl
  have d6 : w3.cell? ⟨b2', 6, none⟩ = some (.int .i64 0) := W3.out.2.1 6 _ rfl
  have d7 : w3.cell? ⟨b2', 7, none⟩ = some (.int .i64 0) := W3.out.2.1 7 _ rfl
  have d8 : w3.cell? ⟨b2', 8, none⟩ = some (.int .i64 0) := W3.out.2.1 8 _ rfl
  have d9 : w3.cell? ⟨b2', 9, none⟩ = some (.bool false) := W3.out.2.1 9 _ rfl
  have d10 : w3.cell? ⟨b2', 10, none⟩ = some (.int .i64 0) := W3.out.2.1 10 _ rfl
  have d11 : w3.cell? ⟨b2', 11, none⟩ = some (.string ⟨#[]⟩) := W3.out.2.1 11 _ rfl
  have d12 : w3.cell? ⟨b2', 12, none⟩ = some (.string ⟨#[]⟩) := W3.out.2.1 12 _ rfl
  have d13 : w3.cell? ⟨b2', 13, none⟩ = some (.int .i64 0) := W3.out.2.1 13 _ rfl
  have d14 : w3.cell? ⟨b2', 14, none⟩ = some (.int .i64 0) := W3.out.2.1 14 _ rfl
  have d15 : w3.cell? ⟨b2', 15, none⟩ = some (.int .i64 0) := W3.out.2.1 15 _ rfl
  have d16 : w3.cell? ⟨b2', 16, none⟩ = some (.int .i64 0) := W3.out.2.1 16 _ rfl
  have d17 : w3.cell? ⟨b2', 17, none⟩ = some (.slice none 0 0) := W3.out.2.1 17 _ rfl
  have d18 : w3.cell? ⟨b2', 18, none⟩ = some (.slice none 0 0) := W3.out.2.1 18 _ rfl
  have d19 : w3.cell? ⟨b2', 19, none⟩ = some (.int .i64 0) := W3.out.2.1 19 _ rfl
  have d20 : w3.cell? ⟨b2', 20, none⟩ = some (.int .i64 0) := W3.out.2.1 20 _ rfl
  have d21 : w3.cell? ⟨b2', 21, none⟩ = some (.slice none 0 0) := W3.out.2.1 21 _ rfl
  have d22 : w3.cell? ⟨b2', 22, none⟩ = some (.slice none 0 0) := W3.out.2.1 22 _ rfl
  go_wp2_with (first | (go_at_call 70; refine nil70.mono ?_; rintro e w' ⟨rfl, rfl⟩) | (go_at_call 71; refine nil71.mono ?_; rintro e w' ⟨rfl, rfl⟩) | (go_at_call 72; refine nil72.mono ?_; rintro e w' ⟨rfl, rfl⟩))
  go_ret
  exact ⟨rfl, W3.out.2.2⟩
end Go.Proofs.YthoppemjfdnibaaGreatDoor

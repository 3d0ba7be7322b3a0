import Derived.Test.YthoppemjfdnibaaGreatDoorMail11
import Derived.Deep.Draws
import Derived.Deep.WholeRow
namespace Go.Proofs.YthoppemjfdnibaaGreatDoor
open Go.RowKit
set_option linter.unusedVariables false

theorem Reads.at_u8 {w : World} {ao : Option Addr} {n c : Nat} {l : List UInt8} (h : Reads w (.slice ao n c) l) (k : Nat) (hk : k < l.length) : ∃ g o, ao = some ⟨g, o, none⟩ ∧ w.cell? ⟨g, o + k, none⟩ = some (.int .u8 ((l.getD k 0).toNat : Int)) := h.at k hk

set_option maxHeartbeats 1600000 in
set_option maxRecDepth 1000000 in
/-- Lists that are alike. -/
theorem same_true {w : World} {s t : Value} {l : List UInt8} (hs : Reads w s l) (ht : Reads w t l) (hlen : l.length ≤ 140737488355328) :
    Calls Tryz.prog 20 #[s, t] w fun e w' => e = .returned (.bool true) ∧ Below w.heap.size w w' := by
  obtain ⟨ao, c, hf⟩ := hs.form
  obtain ⟨ao', c', hf'⟩ := ht.form
  subst hf hf'
  have HS := hid hs
  have HT := hid ht
  clear hs ht
  go_enter Tryz.func20, Tryz.ntmps20
  go_wp2
  go_loopw [5] (fun iv wr => ∃ (k q : Nat), k ≤ l.length ∧ iv = .int .i64 (k : Int) ∧ wr = w.drewN q) (fun iv _ => l.length - (intOf iv).toNat)
  case atStart => exact ⟨0, 0, by omega, rfl, rfl⟩
  case round =>
    obtain ⟨k, q, hk, rfl, rfl⟩ := hrel
    by_cases hlt : k < l.length
    · obtain ⟨g, o, rfl, h1⟩ := HS.out.at_u8 k hlt
      obtain ⟨g', o', rfl, h2⟩ := HT.out.at_u8 k hlt
      generalize (l.getD k 0).toNat = x at h1 h2
      have hb : ((x : Int) != (x : Int)) = false := by simp
      go_wp2
      go_region
      go_wp2
      go_roundw
      case rel => exact ⟨k + 1, q + 1, by omega, by go_num, by simp⟩
      case measure => simp [intOf]; omega
    · go_wp2
      go_ret
      exact ⟨rfl, ⟨rfl, rfl, rfl, Nat.le_refl _, fun _ _ => rfl⟩⟩


theorem newR {s : Value} {l : List UInt8} {cs : List Comp} {w : World} (h : All cs w) (hr : Reads w s l) (hlen : l.length ≤ 140737488355328) : Calls Tryz.prog 62 #[s] w fun e w' => ∃ b D rv, e = .returned (.pointer (some ⟨b, 0, none⟩)) ∧ All (rdC b D rv ⟨l, 0, 0⟩ :: cs) w' :=
  (NewReader_any hr hlen).mono fun e w' ⟨b, D, rv, h1, h2, h3, h4, h5⟩ => ⟨b, D, rv, h1, h.add (Fr.below h3) (rdC_good _ _ _ _) h2 (fun k hk => by
    simp [rdC] at hk
    rcases hk with rfl | hk
    · exact ⟨h4, h2.lt⟩
    · exact h5 k hk)⟩
set_option maxRecDepth 1000000 in
theorem close0 {b : Nat} {D : Option Nat} {rv : Value} {pl : Nat} {cs : List Comp} {w : World} (h : All (rdC b D rv ⟨[], pl, 0⟩ :: cs) w) : Calls Tryz.prog 64 #[.pointer (some ⟨b, 0, none⟩)] w fun e w' => e = .returned (.int .i64 0) ∧ All (rdC b D rv ⟨[], pl, 0⟩ :: cs) w' := by
  have hR : Rd w b D rv [] pl 0 := h.1.2.1
  obtain ⟨ao, c, hf⟩ := hR.reads.form
  subst hf
  have c0 : w.cell? ⟨b, 0, none⟩ = some (.slice ao ([] : List UInt8).length c) := by rw [cell_at hR.box]; rfl
  have c2 : w.cell? ⟨b, 2, none⟩ = some (.int .i64 0) := by rw [cell_at hR.box]; rfl
  have HH := hid h
  clear h hR
  go_enter Tryz.func64, Tryz.ntmps64
  go_wp2
  go_ret
  exact ⟨rfl, HH.out⟩

theorem res25 {tmps : Array Value} {w : World} {b : Nat} {C : Array Value} {e : Value} (ht : tmps.getD 4 undef = .pointer (some ⟨b, 0, none⟩)) (h5 : tmps.getD 5 undef = e) (h : w.heap[b]? = some (.cells C 34 (0, 0))) (hi : (Tryz.prog.info? 34).map (·.size) = some C.size) : (results Tryz.f25 tmps).run Tryz.prog w = .ok (.tuple #[.agg C, e]) w := by
  have hp' : tmps[4]?.getD undef = .pointer (some ⟨b, 0, none⟩) := by simpa using ht
  have hp5 : tmps[5]?.getD undef = e := by simpa using h5
  have hres : Tryz.f25.results = #[.cell 4 34, .tmp 5] := rfl
  simp [results, hp', hp5, asAddr, run_loadVar_row w b 34 34 C (0, 0) _ h Tryz.underlying34 rfl hi]

set_option maxHeartbeats 6400000 in
set_option maxRecDepth 1000000 in
/-- The second example. -/
theorem decode_pok {s : Value} {cs : List Comp} {w : World} (h : All cs w) (hr : Reads w s [5, 1, 0, 172, 2, 5]) (hT : ∀ W, All cs W → Tab W) (hF : ∀ W, All cs W → Fld W) : Calls Tryz.prog 25 #[.int .i64 3, s] w fun e w' => e = .returned (.tuple #[.agg pokM.cells.toArray, .int .i64 0]) ∧ All cs w' := by
  have A0 := h.addBlk zM.cells 34
  have eZ : zM.cells.toArray = #[.int .i64 0, .int .i64 0, .int .i64 0, .int .i64 0, .int .i64 0, .int .i64 0, .int .i64 0, .int .i64 0, .int .i64 0, .bool false, .int .i64 0, .string ⟨#[]⟩, .string ⟨#[]⟩, .int .i64 0, .int .i64 0, .int .i64 0, .int .i64 0, .slice none 0 0, .slice none 0 0, .int .i64 0, .int .i64 0, .slice none 0 0, .slice none 0 0] := rfl
  rw [eZ] at A0
  obtain ⟨RB, hRB⟩ : ∃ X, Hid (X = w.heap.size) := ⟨_, hid rfl⟩
  rw [← hRB.out] at A0
  have A := hid A0
  have HR := hid (hr.below (ba w (.cells #[.int .i64 0, .int .i64 0, .int .i64 0, .int .i64 0, .int .i64 0, .int .i64 0, .int .i64 0, .int .i64 0, .int .i64 0, .bool false, .int .i64 0, .string ⟨#[]⟩, .string ⟨#[]⟩, .int .i64 0, .int .i64 0, .int .i64 0, .int .i64 0, .slice none 0 0, .slice none 0 0, .int .i64 0, .int .i64 0, .slice none 0 0, .slice none 0 0] 34)))
  obtain ⟨sa, sc, hs⟩ := hr.form
  subst hs
  have HT := hid hT
  have HF := hid hF
  have C31 : Hid (∀ W : World, Calls Tryz.prog 31 #[.int .i64 3] W fun e w' => e = .returned (.bool true) ∧ w' = W) := hid (fun W => fleet_any 3)
  have I34 : Hid ((Tryz.prog.info? 34).map (·.size) = some pokM.cells.toArray.size) := hid (by kernel_rfl)
  have O34 : Hid (pokM.cells.toArray.all (·.oneCell') = true) := hid (by kernel_rfl)
  have Z34 : Hid (zM.cells.toArray.size = pokM.cells.toArray.size) := hid (by decide)
  have Z34' : Hid (((#[.int .i64 0, .int .i64 0, .int .i64 0, .int .i64 0, .int .i64 0, .int .i64 0, .int .i64 0, .int .i64 0, .int .i64 0, .bool false, .int .i64 0, .string ⟨#[]⟩, .string ⟨#[]⟩, .int .i64 0, .int .i64 0, .int .i64 0, .int .i64 0, .slice none 0 0, .slice none 0 0, .int .i64 0, .int .i64 0, .slice none 0 0, .slice none 0 0]) : Array Value).size = pokM.cells.toArray.size) := hid (by decide)
  clear h hr hT hF A0 eZ
  go_enter Tryz.func25, Tryz.ntmps25
  go_wp2_with fail
  refine (C31.out _).mono ?_
  rintro e w1 ⟨rfl, hw1⟩
  have A : Hid (All (blkC RB zM.cells 34 :: cs) w1) := hid (by rw [hw1]; exact A.out)
  have HR : Hid (Reads w1 (.slice sa 6 sc) [5, 1, 0, 172, 2, 5]) := hid (by rw [hw1]; exact HR.out)
  rw [← hRB.out]
  clear hw1 C31
  go_wp2_with fail
  refine (newR A.out HR.out (by decide)).mono ?_
  rintro e w2 ⟨br, D, rv, rfl, A2⟩
  obtain ⟨Y, hY⟩ : ∃ Y, Hid (Y = w2.heap.size) := ⟨_, hid rfl⟩
  have A3 := hid ((A2.addBlk [.pointer (some ⟨br, 0, none⟩)] 81).swap)
  rw [← hY.out] at A3
  clear A2 A HR
  go_wp2_with fail
  refine (message_pok A3.out (fun W hW => HF.out W hW.tail.tail)).mono ?_
  rintro e w3 ⟨rfl, v3, A4⟩
  rw [← hY.out]
  obtain ⟨K, hK⟩ : ∃ K, Hid (K = w3.heap.size) := ⟨_, hid rfl⟩
  have A5 := hid (A4.addBlk pokM.cells 34)
  rw [← hK.out] at A5
  have eK : Hid ((w3.alloc (.cells #[.int .i64 0, .int .i64 0, .int .i64 0, .int .i64 0, .int .i64 0, .int .i64 0, .int .i64 0, .int .i64 0, .int .i64 0, .bool false, .int .i64 0, .string ⟨#[]⟩, .string ⟨#[]⟩, .int .i64 0, .int .i64 0, .int .i64 0, .int .i64 0, .slice none 0 0, .slice none 0 0, .int .i64 0, .int .i64 0, .slice none 0 0, .slice none 0 0] 34)).setRow K pokM.cells.toArray = w3.alloc (.cells pokM.cells.toArray 34)) := hid (by rw [hK.out]; exact World.setRow_alloc_new _ _ _ _)
  have hKn : Hid ((w3.alloc (.cells #[.int .i64 0, .int .i64 0, .int .i64 0, .int .i64 0, .int .i64 0, .int .i64 0, .int .i64 0, .int .i64 0, .int .i64 0, .bool false, .int .i64 0, .string ⟨#[]⟩, .string ⟨#[]⟩, .int .i64 0, .int .i64 0, .int .i64 0, .int .i64 0, .slice none 0 0, .slice none 0 0, .int .i64 0, .int .i64 0, .slice none 0 0, .slice none 0 0] 34)).heap[K]? = some (.cells #[.int .i64 0, .int .i64 0, .int .i64 0, .int .i64 0, .int .i64 0, .int .i64 0, .int .i64 0, .int .i64 0, .int .i64 0, .bool false, .int .i64 0, .string ⟨#[]⟩, .string ⟨#[]⟩, .int .i64 0, .int .i64 0, .int .i64 0, .int .i64 0, .slice none 0 0, .slice none 0 0, .int .i64 0, .int .i64 0, .slice none 0 0, .slice none 0 0] 34 (0, 0))) := hid (by rw [hK.out]; exact heap_alloc_new _ _)
  have y0 : (w3.alloc (.cells pokM.cells.toArray 34)).cell? ⟨Y, 0, none⟩ = some (.pointer (some ⟨br, 0, none⟩)) := by rw [cell_at A5.out.tail.tail.1.2.1]; rfl
  have CP : Hid (∀ W : World, Tab W → Fld W → Calls Tryz.prog 15 #[.int .i64 3, .agg pokM.cells.toArray] W fun e w' => e = .returned (.int .i64 0) ∧ Below W.heap.size W w') := hid (fun W h1 h2 => check_pok h1 h2)
  clear A3 A4
  generalize hPC : pokM.cells = PC at *
  go_upto_region 5 with (first | (refine wpList_store_row rfl 34 _ _ rfl K PC.toArray (by rw [hK.out]; rfl) rfl 34 _ hKn.out I34.out Z34'.out O34.out ?_))
  rw [eK.out, ← hK.out]
  generalize hW4 : w3.alloc (.cells PC.toArray 34) = w4 at A5 y0 ⊢
  clear hW4 eK hKn
  go_wp2_with fail
  refine (close0 (pl := 6) A5.out.swap).mono ?_
  rintro e w5 ⟨rfl, A6⟩
  have A6 := hid A6.swap
  have M2 : Hid (w5.heap[K]? = some (.cells PC.toArray 34 (0, 0))) := hid A6.out.1.2.1
  have CK := hid (CP.out w5 (HT.out _ A6.out.tail.tail.tail.tail) (HF.out _ A6.out.tail.tail.tail.tail))
  clear A5 y0 CP
  go_wp2_with (refine wpList_load_row rfl 34 _ rfl K rfl 34 PC.toArray (0, 0) _ M2.out Tryz.underlying34 rfl I34.out ?_)
  refine CK.out.mono ?_
  rintro e w6 ⟨rfl, B6⟩
  have A7 := A6.out.later B6
  have M3 : Hid (w6.heap[K]? = some (.cells PC.toArray 34 (0, 0))) := hid A7.1.2.1
  have R3 : Hid (w6.heap[RB]? = some (.cells zM.cells.toArray 34 (0, 0))) := hid A7.tail.tail.tail.1.2.1
  have AF := hid ((A7.perm (List.perm_middle (a := blkC RB zM.cells 34) (l₁ := [blkC K PC 34, rdC br D v3 ⟨[], 6, 0⟩, blkC Y [.pointer (some ⟨br, 0, none⟩)] 81]))).setRow (vs' := PC))
  clear A7 B6 CK M2 A6
  go_wp2_with (first | (refine wpList_load_row rfl 34 _ rfl K rfl 34 PC.toArray (0, 0) _ M3.out Tryz.underlying34 rfl I34.out ?_) | (refine wpList_store_row rfl 34 _ _ rfl RB PC.toArray rfl rfl 34 _ R3.out I34.out Z34.out O34.out ?_))
  refine bodyPost_ret (v := .tuple #[.agg PC.toArray, .int .i64 0]) (res25 (b := RB) rfl rfl AF.out.1.2.1 I34.out) rfl ?_
  exact ⟨by rw [hPC], AF.out.tail.tail.tail.tail⟩
end Go.Proofs.YthoppemjfdnibaaGreatDoor

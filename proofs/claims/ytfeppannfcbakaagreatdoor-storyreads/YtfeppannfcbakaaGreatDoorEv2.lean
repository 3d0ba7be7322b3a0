import Derived.Test.YtfeppannfcbakaaGreatDoorEv1
import Derived.Deep.MidRow
namespace Go.Proofs.YtfeppannfcbakaaGreatDoor
open Go.RowKit
set_option linter.unusedVariables false
set_option maxRecDepth 1000000
set_option maxHeartbeats 6400000
def valI (C : List Value) (o : Nat) : Int := match C[o]? with
 | some (.int _ v) => v
 | _ => 0
def lenS (C : List Value) (o : Nat) : Nat := match C[o]? with
 | some (.slice _ n _) => n
 | _ => 0
def Tp1 (C : List Value) : Th → Prop
 | .int o => ∃ v, C[o]? = some (.int .i64 v)
 | .cod o => ∃ v, C[o]? = some (.int .i64 v)
 | .sta o => ∃ v, C[o]? = some (.int .i64 v)
 | .fre o => ∃ b, C[o]? = some (.bool b)
 | .dat o => ∃ a n c, C[o]? = some (.slice a n c)
 | .op o => ∃ k nm tx n m, C[o]? = some (.int .i64 k) ∧ C[o + 1]? = some (.string nm) ∧ C[o + 2]? = some (.string tx) ∧ C[o + 3]? = some (.int .i64 n) ∧ C[o + 4]? = some (.int .i64 m)
 | .res o => ∃ c n a k p, C[o]? = some (.int .i64 c) ∧ C[o + 1]? = some (.int .i64 n) ∧ C[o + 2]? = some (.slice a k p)
 | _ => True
def clr1 (C : List Value) : Th → List Value
 | .int o => C.set o (.int .i64 0)
 | .cod o => C.set o (.int .i64 0)
 | .sta o => C.set o (.int .i64 0)
 | .fre o => C.set o (.bool false)
 | .dat o => C.set o (.slice none 0 0)
 | .op o => ((((C.set o (.int .i64 0)).set (o + 1) (.string ⟨#[]⟩)).set (o + 2) (.string ⟨#[]⟩)).set (o + 3) (.int .i64 0)).set (o + 4) (.int .i64 0)
 | .res o => ((C.set o (.int .i64 0)).set (o + 1) (.int .i64 0)).set (o + 2) (.slice none 0 0)
 | _ => C
def ok1 (C : List Value) : Th → Bool
 | .int o => decide (0 ≤ valI C o)
 | .cod o => decide (0 ≤ valI C o)
 | .sta o => decide (1 ≤ valI C o) && decide (valI C o ≤ 3)
 | .dat o => decide (lenS C o ≤ 2304)
 | _ => true
def sub : Th → List Th
 | .look o => lookL o
 | .sht o => shtL o
 | t => [t]
def flatT : Th → Bool
 | .look _ => false
 | .sht _ => false
 | _ => true
def clrF (l : List Th) (C : List Value) : List Value := l.foldl clr1 C
def okF : List Th → List Value → Bool
 | [], _ => true
 | t :: r, C => ok1 C t && okF r (clr1 C t)
def TpF : List Th → List Value → Prop
 | [], _ => True
 | t :: r, C => Tp1 C t ∧ TpF r (clr1 C t)
def clr (C : List Value) (t : Th) : List Value := clrF (sub t) C
def okT (C : List Value) (t : Th) : Bool := okF (sub t) C
def TpT (C : List Value) (t : Th) : Prop := TpF (sub t) C
def clrL (l : List Th) (C : List Value) : List Value := l.foldl clr C
def okL : List Th → List Value → Bool
 | [], _ => true
 | t :: r, C => okT C t && okL r (clr C t)
def TpL : List Th → List Value → Prop
 | [], _ => True
 | t :: r, C => TpT C t ∧ TpL r (clr C t)
theorem okL_snoc {l : List Th} {t : Th} {C : List Value} : okL (l ++ [t]) C = (okL l C && okT (clrL l C) t) := by
 induction l generalizing C with
 | nil => simp [okL, clrL]
 | cons x r ih => simp only [List.cons_append, okL, ih, clrL, List.foldl_cons, Bool.and_assoc]
theorem clrL_snoc {l : List Th} {t : Th} {C : List Value} : clrL (l ++ [t]) C = clr (clrL l C) t := by simp [clrL]
theorem TpL_at {l : List Th} {C : List Value} (h : TpL l C) {j : Nat} {t : Th} (hj : l[j]? = some t) : TpT (clrL (l.take j) C) t := by
 induction l generalizing C j with
 | nil => simp at hj
 | cons x r ih =>
   cases j with
   | zero => simp at hj; subst hj; simpa [clrL] using h.1
   | succ j => simpa [clrL] using ih h.2 (j := j) (by simpa using hj)
theorem take_at {l : List Th} {j : Nat} {t : Th} (hj : l[j]? = some t) : l.take (j + 1) = l.take j ++ [t] := by
 rw [List.take_add_one, hj]; rfl
theorem TpL_flat {l : List Th} {C : List Value} (hf : ∀ t ∈ l, flatT t = true) (h : TpF l C) : TpL l C := by
 induction l generalizing C with
 | nil => exact trivial
 | cons t r ih =>
   have ht := hf t (by simp)
   have hs : sub t = [t] := by cases t <;> simp_all [flatT, sub]
   refine ⟨?_, ?_⟩
   · unfold TpT; rw [hs]; exact ⟨h.1, trivial⟩
   · have := ih (fun x hx => hf x (by simp [hx])) h.2
     unfold clr; rw [hs]; exact this
theorem okL_flat {l : List Th} {C : List Value} (hf : ∀ t ∈ l, flatT t = true) : okL l C = okF l C ∧ clrL l C = clrF l C := by
 induction l generalizing C with
 | nil => exact ⟨rfl, rfl⟩
 | cons t r ih =>
   have ht := hf t (by simp)
   have hs : sub t = [t] := by cases t <;> simp_all [flatT, sub]
   have := ih (C := clr1 C t) (fun x hx => hf x (by simp [hx]))
   refine ⟨?_, ?_⟩
   · simp only [okL, okF, okT, clr, hs, clrF, List.foldl_cons, List.foldl_nil, Bool.and_true, this.1]
   · simp only [clrL, clrF, List.foldl_cons, clr, hs, List.foldl_nil] at this ⊢; exact this.2
theorem flat_look (o : Nat) : ∀ t ∈ lookL o, flatT t = true := by simp [lookL, flatT]
theorem flat_sht (o : Nat) : ∀ t ∈ shtL o, flatT t = true := by simp [shtL, flatT]
def TkPost (P b : Nat) (l : List Th) (LV C : List Value) (cs : List Comp) (e : Ending) (w' : World) : Prop := e = .returned (.bool (okL l C)) ∧ All (blkC P (clrL l C) 36 :: blkC b LV 20 :: cs) w'
theorem valI_at {C : List Value} {o : Nat} {v : Int} (h : C[o]? = some (.int .i64 v)) : valI C o = v := by unfold valI; rw [h]
theorem lenS_at {C : List Value} {o : Nat} {a : Option Addr} {n c : Nat} (h : C[o]? = some (.slice a n c)) : lenS C o = n := by unfold lenS; rw [h]
theorem cell_in {P o : Nat} {C : List Value} {t : TypeId} {cs : List Comp} {w : World} {v : Value} (A : All cs w) (hm : blkC P C t ∈ cs) (h : C[o]? = some v) : w.cell? ⟨P, o, none⟩ = some v := by
 rw [cell_at (A.blk hm), List.getElem?_toArray]; exact h
theorem takeOut_gen {P b : Nat} {l : List Th} {C : List Value} {cs : List Comp} {w : World} (N : Bool) (hfl : N = false → ∀ t ∈ l, flatT t = true)
   (HN : N = true → ∀ (b' : Nat) (l' : List Th) (C' : List Value) (ds : List Comp) (W : World), (∀ t ∈ l', flatT t = true) → l'.length ≤ 100 → TpL l' C' → All (blkC P C' 36 :: blkC b' (l'.map (thV P)) 20 :: ds) W → Calls Tryz.prog 53 #[.slice (some ⟨b', 0, none⟩) l'.length l'.length] W (TkPost P b' l' (l'.map (thV P)) C' ds))
   (hlen : l.length ≤ 100) (hL : TpL l C) (A : All (blkC P C 36 :: blkC b (l.map (thV P)) 20 :: cs) w) :
   Calls Tryz.prog 53 #[.slice (some ⟨b, 0, none⟩) l.length l.length] w (TkPost P b l (l.map (thV P)) C cs) := by
 have EL : Hid (∀ j, j < l.length → ∃ t, l[j]? = some t ∧ (l.map (thV P))[j]? = some (thV P t) ∧ t ∈ l) := hid (fun j hj => ⟨l[j], List.getElem?_eq_getElem hj, by simp [List.getElem?_eq_getElem hj], List.getElem_mem hj⟩)
 have TL := hid hL
 have A0 : Hid (All (blkC P (clrL (l.take 0) C) 36 :: blkC b (l.map (thV P)) 20 :: cs) w) := hid (by simpa [clrL] using A)
 have O0 : Hid (okL (l.take 0) C = true) := hid rfl
 have FIN : Hid (okL (l.take l.length) C = okL l C ∧ clrL (l.take l.length) C = clrL l C) := hid (by rw [List.take_length]; exact ⟨rfl, rfl⟩)
 unfold TkPost
 clear A hL
 generalize hLV : l.map (thV P) = LV at *
 have HLV := hid hLV
 clear hLV
 generalize hn : l.length = n at *
 have HN7 := hid hn
 have HNN := hid HN
 have HFL := hid hfl
 clear hn HN hfl
 go_enter Tryz.func53, Tryz.ntmps53
 go_wp2
 go_loopw [3, 17] (fun bv iv wr => ∃ j : Nat, j ≤ n ∧ iv = .int .i64 (j : Int) ∧ bv = .bool (okL (l.take j) C) ∧ Hid (All (blkC P (clrL (l.take j) C) 36 :: blkC b LV 20 :: cs) wr)) (fun _ iv _ => n - (intOf iv).toNat)
 case atStart => exact ⟨0, Nat.zero_le _, rfl, by rw [O0.out], A0⟩
 case round =>
   obtain ⟨j, hj, rfl, rfl, HA⟩ := hrel
   clear A0 O0
   by_cases hlt : j < n
   · have hlt' : (j : Int) < (n : Int) := by omega
     obtain ⟨t, ht, hv, hm⟩ := EL.out j hlt
     have TPT := hid (TpL_at TL.out ht)
     have NX : Hid (okL (l.take (j + 1)) C = (okL (l.take j) C && okT (clrL (l.take j) C) t) ∧ clrL (l.take (j + 1)) C = clr (clrL (l.take j) C) t) := hid (by rw [take_at ht]; exact ⟨okL_snoc, clrL_snoc⟩)
     have FT := hid (fun h => HFL.out h t hm)
     have hcb : wr.cell? ⟨b, j, none⟩ = some (thV P t) := cell_in HA.out (t := 20) (by simp) hv
     generalize hCJ : clrL (l.take j) C = CJ at *
     have HCJ := hid hCJ
     clear hCJ ht hm hv
     obtain ⟨B, hB⟩ : ∃ B, Hid (B = okL (l.take j) C) := ⟨_, hid rfl⟩
     rw [← hB.out] at NX ⊢
     cases t with
     | int o =>
       obtain ⟨⟨v, hv⟩, -⟩ := TPT.out
       have hc := cell_in (P := P) HA.out (t := 36) (by simp) hv
       have hf := free_at (HA.out.blk (g := P) (vs := CJ) (t := 36) (by simp)) o
       have hP : P < wr.heap.size := HA.out.1.2.2 P (by simp [blkC])
       have K2 : Hid (All (blkC P (clrL (l.take (j + 1)) C) 36 :: blkC b LV 20 :: cs) (wr.setCell ⟨P, o, none⟩ (.int .i64 0))) := hid (by rw [NX.out.2]; exact HA.out.setBlk o (.int .i64 0))
       have OK : Hid (okL (l.take (j + 1)) C = (B && decide (0 ≤ v))) := hid (by rw [NX.out.1]; simp [okT, okF, sub, ok1, valI_at hv])
       simp only [thV] at hcb
       clear hv TPT NX FT
       have ta0 : ∀ W : World, (Instr.typeAssert (.iface 97 (.pointer (some ⟨P, o, none⟩))) 20 97 true).run Tryz.prog W = .ok (.tuple #[.pointer (some ⟨P, o, none⟩), .bool true]) W := fun W => by kernel_rfl
       cases B
       · go_wp2
         go_roundw
         case rel => exact ⟨j + 1, by omega, by go_num, by rw [OK.out]; rfl, K2⟩
         case measure => simp [intOf]; omega
       · go_wp2
         go_roundw
         case rel => exact ⟨j + 1, by omega, by go_num, by rw [OK.out]; simp, K2⟩
         case measure => simp [intOf]; omega
     | cod o =>
       obtain ⟨⟨v, hv⟩, -⟩ := TPT.out
       have hc := cell_in (P := P) HA.out (t := 36) (by simp) hv
       have hf := free_at (HA.out.blk (g := P) (vs := CJ) (t := 36) (by simp)) o
       have hP : P < wr.heap.size := HA.out.1.2.2 P (by simp [blkC])
       have K2 : Hid (All (blkC P (clrL (l.take (j + 1)) C) 36 :: blkC b LV 20 :: cs) (wr.setCell ⟨P, o, none⟩ (.int .i64 0))) := hid (by rw [NX.out.2]; exact HA.out.setBlk o (.int .i64 0))
       have OK : Hid (okL (l.take (j + 1)) C = (B && decide (0 ≤ v))) := hid (by rw [NX.out.1]; simp [okT, okF, sub, ok1, valI_at hv])
       simp only [thV] at hcb
       clear hv TPT NX FT
       have ta0 : ∀ W : World, (Instr.typeAssert (.iface 98 (.pointer (some ⟨P, o, none⟩))) 20 97 true).run Tryz.prog W = .ok (.tuple #[.pointer none, .bool false]) W := fun W => by kernel_rfl
       have ta1 : ∀ W : World, (Instr.typeAssert (.iface 98 (.pointer (some ⟨P, o, none⟩))) 20 98 true).run Tryz.prog W = .ok (.tuple #[.pointer (some ⟨P, o, none⟩), .bool true]) W := fun W => by kernel_rfl
       cases B
       · go_wp2
         go_roundw
         case rel => exact ⟨j + 1, by omega, by go_num, by rw [OK.out]; rfl, K2⟩
         case measure => simp [intOf]; omega
       · go_wp2
         go_roundw
         case rel => exact ⟨j + 1, by omega, by go_num, by rw [OK.out]; simp, K2⟩
         case measure => simp [intOf]; omega
     | fre o =>
       obtain ⟨⟨v, hv⟩, -⟩ := TPT.out
       have hc := cell_in (P := P) HA.out (t := 36) (by simp) hv
       have hf := free_at (HA.out.blk (g := P) (vs := CJ) (t := 36) (by simp)) o
       have hP : P < wr.heap.size := HA.out.1.2.2 P (by simp [blkC])
       have K2 : Hid (All (blkC P (clrL (l.take (j + 1)) C) 36 :: blkC b LV 20 :: cs) (wr.setCell ⟨P, o, none⟩ (.bool false))) := hid (by rw [NX.out.2]; exact HA.out.setBlk o (.bool false))
       have OK : Hid (okL (l.take (j + 1)) C = B) := hid (by rw [NX.out.1]; simp [okT, okF, sub, ok1])
       clear hv
       simp only [thV] at hcb
       clear TPT NX FT
       have ta0 : ∀ W : World, (Instr.typeAssert (.iface 101 (.pointer (some ⟨P, o, none⟩))) 20 97 true).run Tryz.prog W = .ok (.tuple #[.pointer none, .bool false]) W := fun W => by kernel_rfl
       have ta1 : ∀ W : World, (Instr.typeAssert (.iface 101 (.pointer (some ⟨P, o, none⟩))) 20 98 true).run Tryz.prog W = .ok (.tuple #[.pointer none, .bool false]) W := fun W => by kernel_rfl
       have ta2 : ∀ W : World, (Instr.typeAssert (.iface 101 (.pointer (some ⟨P, o, none⟩))) 20 140 true).run Tryz.prog W = .ok (.tuple #[.agg #[.pointer none], .bool false]) W := fun W => by kernel_rfl
       have ta3 : ∀ W : World, (Instr.typeAssert (.iface 101 (.pointer (some ⟨P, o, none⟩))) 20 141 true).run Tryz.prog W = .ok (.tuple #[.pointer none, .bool false]) W := fun W => by kernel_rfl
       have ta4 : ∀ W : World, (Instr.typeAssert (.iface 101 (.pointer (some ⟨P, o, none⟩))) 20 101 true).run Tryz.prog W = .ok (.tuple #[.pointer (some ⟨P, o, none⟩), .bool true]) W := fun W => by kernel_rfl
       go_wp2
       go_roundw
       case rel => exact ⟨j + 1, by omega, by go_num, by rw [OK.out], K2⟩
       case measure => simp [intOf]; omega
     | dat o =>
       obtain ⟨⟨ao, v, c, hv⟩, -⟩ := TPT.out
       have hc := cell_in (P := P) HA.out (t := 36) (by simp) hv
       have hf := free_at (HA.out.blk (g := P) (vs := CJ) (t := 36) (by simp)) o
       have hP : P < wr.heap.size := HA.out.1.2.2 P (by simp [blkC])
       have K2 : Hid (All (blkC P (clrL (l.take (j + 1)) C) 36 :: blkC b LV 20 :: cs) (wr.setCell ⟨P, o, none⟩ (.slice none 0 0))) := hid (by rw [NX.out.2]; exact HA.out.setBlk o (.slice none 0 0))
       have OK : Hid (okL (l.take (j + 1)) C = (B && decide ((v : Int) ≤ 2304))) := hid (by rw [NX.out.1]; simp only [okT, okF, sub, ok1, lenS_at hv, Bool.and_true]; exact congrArg (B && ·) (decide_eq_decide.2 (by omega)))
       clear hv
       simp only [thV] at hcb
       clear TPT NX FT
       have ta0 : ∀ W : World, (Instr.typeAssert (.iface 141 (.pointer (some ⟨P, o, none⟩))) 20 97 true).run Tryz.prog W = .ok (.tuple #[.pointer none, .bool false]) W := fun W => by kernel_rfl
       have ta1 : ∀ W : World, (Instr.typeAssert (.iface 141 (.pointer (some ⟨P, o, none⟩))) 20 98 true).run Tryz.prog W = .ok (.tuple #[.pointer none, .bool false]) W := fun W => by kernel_rfl
       have ta2 : ∀ W : World, (Instr.typeAssert (.iface 141 (.pointer (some ⟨P, o, none⟩))) 20 140 true).run Tryz.prog W = .ok (.tuple #[.agg #[.pointer none], .bool false]) W := fun W => by kernel_rfl
       have ta3 : ∀ W : World, (Instr.typeAssert (.iface 141 (.pointer (some ⟨P, o, none⟩))) 20 141 true).run Tryz.prog W = .ok (.tuple #[.pointer (some ⟨P, o, none⟩), .bool true]) W := fun W => by kernel_rfl
       cases B
       · go_wp2
         go_roundw
         case rel => exact ⟨j + 1, by omega, by go_num, by rw [OK.out]; rfl, K2⟩
         case measure => simp [intOf]; omega
       · go_wp2
         go_roundw
         case rel => exact ⟨j + 1, by omega, by go_num, by rw [OK.out]; simp, K2⟩
         case measure => simp [intOf]; omega
     | sta o =>
       obtain ⟨⟨v, hv⟩, -⟩ := TPT.out
       have HAA := hid (HA.out.alloc (.cells #[.pointer (some ⟨P, o, none⟩)] 140))
       have hc := cell_in (P := P) HAA.out (t := 36) (by simp) hv
       have hf := free_at (HAA.out.blk (g := P) (vs := CJ) (t := 36) (by simp)) o
       have hP : P < (wr.alloc (.cells #[.pointer (some ⟨P, o, none⟩)] 140)).heap.size := HAA.out.1.2.2 P (by simp [blkC])
       have K2 : Hid (All (blkC P (clrL (l.take (j + 1)) C) 36 :: blkC b LV 20 :: cs) ((wr.alloc (.cells #[.pointer (some ⟨P, o, none⟩)] 140)).setCell ⟨P, o, none⟩ (.int .i64 0))) := hid (by rw [NX.out.2]; exact HAA.out.setBlk o (.int .i64 0))
       have OK : Hid (okL (l.take (j + 1)) C = (B && (decide (1 ≤ v) && decide (v ≤ 3)))) := hid (by rw [NX.out.1]; simp [okT, okF, sub, ok1, valI_at hv])
       have hnew : (wr.alloc (.cells #[.pointer (some ⟨P, o, none⟩)] 140)).cell? ⟨wr.heap.size, 0, none⟩ = some (.pointer (some ⟨P, o, none⟩)) := by rw [cell_at (heap_alloc_new wr _)]; rfl
       clear hv
       simp only [thV] at hcb
       clear TPT NX FT
       have ta0 : ∀ W : World, (Instr.typeAssert (.iface 140 (.agg #[.pointer (some ⟨P, o, none⟩)])) 20 97 true).run Tryz.prog W = .ok (.tuple #[.pointer none, .bool false]) W := fun W => by kernel_rfl
       have ta1 : ∀ W : World, (Instr.typeAssert (.iface 140 (.agg #[.pointer (some ⟨P, o, none⟩)])) 20 98 true).run Tryz.prog W = .ok (.tuple #[.pointer none, .bool false]) W := fun W => by kernel_rfl
       have ta2 : ∀ W : World, (Instr.typeAssert (.iface 140 (.agg #[.pointer (some ⟨P, o, none⟩)])) 20 140 true).run Tryz.prog W = .ok (.tuple #[.agg #[.pointer (some ⟨P, o, none⟩)], .bool true]) W := fun W => by kernel_rfl
       have I140 : (Tryz.prog.info? 140).map (·.size) = some (#[Value.pointer (some ⟨P, o, none⟩)] : Array Value).size := by kernel_rfl
       cases B
       · go_upto_region 16 with (refine wpList_store_row rfl 140 _ _ rfl wr.heap.size #[.pointer (some ⟨P, o, none⟩)] rfl rfl 140 _ (heap_alloc_new wr _) I140 rfl rfl ?_; rw [World.setRow_alloc_new])
         go_wp2
         go_roundw
         case rel => exact ⟨j + 1, by omega, by go_num, by rw [OK.out]; rfl, K2⟩
         case measure => simp [intOf]; omega
       · by_cases h1 : 1 ≤ v
         · go_upto_region 16 with (refine wpList_store_row rfl 140 _ _ rfl wr.heap.size #[.pointer (some ⟨P, o, none⟩)] rfl rfl 140 _ (heap_alloc_new wr _) I140 rfl rfl ?_; rw [World.setRow_alloc_new])
           go_wp2
           go_roundw
           case rel => exact ⟨j + 1, by omega, by go_num, by rw [OK.out]; simp [h1], K2⟩
           case measure => simp [intOf]; omega
         · go_upto_region 16 with (refine wpList_store_row rfl 140 _ _ rfl wr.heap.size #[.pointer (some ⟨P, o, none⟩)] rfl rfl 140 _ (heap_alloc_new wr _) I140 rfl rfl ?_; rw [World.setRow_alloc_new])
           go_wp2
           go_roundw
           case rel => exact ⟨j + 1, by omega, by go_num, by rw [OK.out]; simp [h1], K2⟩
           case measure => simp [intOf]; omega
     | op o =>
       obtain ⟨⟨k, nm, tx, n1, m1, h0, h1, h2, h3, h4⟩, -⟩ := TPT.out
       have hlt2 : o + 4 < CJ.length := (List.getElem?_eq_some_iff.1 h4).1
       have TH : Hid (wr.there P o (#[.int .i64 0, .string ⟨#[]⟩, .string ⟨#[]⟩, .int .i64 0, .int .i64 0] : Array Value).size) := hid fun q hq => by
         have hb := HA.out.blk (g := P) (vs := CJ) (t := 36) (by simp)
         have hq' : q < 5 := hq
         refine ⟨?_, free_at hb _⟩
         rw [cell_at hb, List.getElem?_toArray, List.getElem?_eq_getElem (by omega)]
         rfl
       have I2 : Hid ((Tryz.prog.info? 24).map (·.size) = some (#[.int .i64 0, .string ⟨#[]⟩, .string ⟨#[]⟩, .int .i64 0, .int .i64 0] : Array Value).size) := hid (by kernel_rfl)
       have O2 : Hid ((#[.int .i64 0, .string ⟨#[]⟩, .string ⟨#[]⟩, .int .i64 0, .int .i64 0] : Array Value).all (·.oneCell') = true) := hid (by simp [Value.oneCell'])
       have K2 : Hid (All (blkC P (clrL (l.take (j + 1)) C) 36 :: blkC b LV 20 :: cs) (wr.setCells P o [.int .i64 0, .string ⟨#[]⟩, .string ⟨#[]⟩, .int .i64 0, .int .i64 0])) := hid (by rw [NX.out.2]; exact (((((HA.out.setBlk o (.int .i64 0)).setBlk (o + 1) (.string ⟨#[]⟩)).setBlk (o + 2) (.string ⟨#[]⟩)).setBlk (o + 3) (.int .i64 0)).setBlk (o + 4) (.int .i64 0)))
       obtain ⟨wz, hwz⟩ : ∃ wz, Hid (wr.setCells P o (#[.int .i64 0, .string ⟨#[]⟩, .string ⟨#[]⟩, .int .i64 0, .int .i64 0] : Array Value).toList = wz) := ⟨_, hid rfl⟩
       have K3 : Hid (All (blkC P (clrL (l.take (j + 1)) C) 36 :: blkC b LV 20 :: cs) wz) := hid (by rw [← hwz.out]; exact K2.out)
       clear K2
       have OK : Hid (okL (l.take (j + 1)) C = B) := hid (by rw [NX.out.1]; simp [okT, okF, sub, ok1])
       clear hlt2 h0 h1 h2 h3 h4
       simp only [thV] at hcb
       clear TPT NX FT
       have ta0 : ∀ W : World, (Instr.typeAssert (.iface 99 (.pointer (some ⟨P, o, none⟩))) 20 97 true).run Tryz.prog W = .ok (.tuple #[.pointer none, .bool false]) W := fun W => by kernel_rfl
       have ta1 : ∀ W : World, (Instr.typeAssert (.iface 99 (.pointer (some ⟨P, o, none⟩))) 20 98 true).run Tryz.prog W = .ok (.tuple #[.pointer none, .bool false]) W := fun W => by kernel_rfl
       have ta2 : ∀ W : World, (Instr.typeAssert (.iface 99 (.pointer (some ⟨P, o, none⟩))) 20 140 true).run Tryz.prog W = .ok (.tuple #[.agg #[.pointer none], .bool false]) W := fun W => by kernel_rfl
       have ta3 : ∀ W : World, (Instr.typeAssert (.iface 99 (.pointer (some ⟨P, o, none⟩))) 20 141 true).run Tryz.prog W = .ok (.tuple #[.pointer none, .bool false]) W := fun W => by kernel_rfl
       have ta4 : ∀ W : World, (Instr.typeAssert (.iface 99 (.pointer (some ⟨P, o, none⟩))) 20 101 true).run Tryz.prog W = .ok (.tuple #[.pointer none, .bool false]) W := fun W => by kernel_rfl
       have ta5 : ∀ W : World, (Instr.typeAssert (.iface 99 (.pointer (some ⟨P, o, none⟩))) 20 99 true).run Tryz.prog W = .ok (.tuple #[.pointer (some ⟨P, o, none⟩), .bool true]) W := fun W => by kernel_rfl
       go_wp2_with (refine wpList_store_mid rfl 24 _ _ rfl P o #[.int .i64 0, .string ⟨#[]⟩, .string ⟨#[]⟩, .int .i64 0, .int .i64 0] rfl rfl TH.out I2.out O2.out ?_; rw [hwz.out])
       go_roundw
       case rel => exact ⟨j + 1, by omega, by go_num, by rw [OK.out], K3⟩
       case measure => simp [intOf]; omega
     | res o =>
       obtain ⟨⟨c1, n1, a1, k1, p1, h0, h1, h2⟩, -⟩ := TPT.out
       have hlt2 : o + 2 < CJ.length := (List.getElem?_eq_some_iff.1 h2).1
       have TH : Hid (wr.there P o (#[.int .i64 0, .int .i64 0, .slice none 0 0] : Array Value).size) := hid fun q hq => by
         have hb := HA.out.blk (g := P) (vs := CJ) (t := 36) (by simp)
         have hq' : q < 3 := hq
         refine ⟨?_, free_at hb _⟩
         rw [cell_at hb, List.getElem?_toArray, List.getElem?_eq_getElem (by omega)]
         rfl
       have I2 : Hid ((Tryz.prog.info? 29).map (·.size) = some (#[.int .i64 0, .int .i64 0, .slice none 0 0] : Array Value).size) := hid (by kernel_rfl)
       have O2 : Hid ((#[.int .i64 0, .int .i64 0, .slice none 0 0] : Array Value).all (·.oneCell') = true) := hid (by simp [Value.oneCell'])
       have K2 : Hid (All (blkC P (clrL (l.take (j + 1)) C) 36 :: blkC b LV 20 :: cs) (wr.setCells P o [.int .i64 0, .int .i64 0, .slice none 0 0])) := hid (by rw [NX.out.2]; exact (((HA.out.setBlk o (.int .i64 0)).setBlk (o + 1) (.int .i64 0)).setBlk (o + 2) (.slice none 0 0)))
       obtain ⟨wz, hwz⟩ : ∃ wz, Hid (wr.setCells P o (#[.int .i64 0, .int .i64 0, .slice none 0 0] : Array Value).toList = wz) := ⟨_, hid rfl⟩
       have K3 : Hid (All (blkC P (clrL (l.take (j + 1)) C) 36 :: blkC b LV 20 :: cs) wz) := hid (by rw [← hwz.out]; exact K2.out)
       clear K2
       have OK : Hid (okL (l.take (j + 1)) C = B) := hid (by rw [NX.out.1]; simp [okT, okF, sub, ok1])
       clear hlt2 h0 h1 h2
       simp only [thV] at hcb
       clear TPT NX FT
       have ta0 : ∀ W : World, (Instr.typeAssert (.iface 100 (.pointer (some ⟨P, o, none⟩))) 20 97 true).run Tryz.prog W = .ok (.tuple #[.pointer none, .bool false]) W := fun W => by kernel_rfl
       have ta1 : ∀ W : World, (Instr.typeAssert (.iface 100 (.pointer (some ⟨P, o, none⟩))) 20 98 true).run Tryz.prog W = .ok (.tuple #[.pointer none, .bool false]) W := fun W => by kernel_rfl
       have ta2 : ∀ W : World, (Instr.typeAssert (.iface 100 (.pointer (some ⟨P, o, none⟩))) 20 140 true).run Tryz.prog W = .ok (.tuple #[.agg #[.pointer none], .bool false]) W := fun W => by kernel_rfl
       have ta3 : ∀ W : World, (Instr.typeAssert (.iface 100 (.pointer (some ⟨P, o, none⟩))) 20 141 true).run Tryz.prog W = .ok (.tuple #[.pointer none, .bool false]) W := fun W => by kernel_rfl
       have ta4 : ∀ W : World, (Instr.typeAssert (.iface 100 (.pointer (some ⟨P, o, none⟩))) 20 101 true).run Tryz.prog W = .ok (.tuple #[.pointer none, .bool false]) W := fun W => by kernel_rfl
       have ta5 : ∀ W : World, (Instr.typeAssert (.iface 100 (.pointer (some ⟨P, o, none⟩))) 20 99 true).run Tryz.prog W = .ok (.tuple #[.pointer none, .bool false]) W := fun W => by kernel_rfl
       have ta6 : ∀ W : World, (Instr.typeAssert (.iface 100 (.pointer (some ⟨P, o, none⟩))) 20 100 true).run Tryz.prog W = .ok (.tuple #[.pointer (some ⟨P, o, none⟩), .bool true]) W := fun W => by kernel_rfl
       go_wp2_with (refine wpList_store_mid rfl 29 _ _ rfl P o #[.int .i64 0, .int .i64 0, .slice none 0 0] rfl rfl TH.out I2.out O2.out ?_; rw [hwz.out])
       go_roundw
       case rel => exact ⟨j + 1, by omega, by go_num, by rw [OK.out], K3⟩
       case measure => simp [intOf]; omega
     | look o =>
       cases N with
       | false => exact absurd (FT.out rfl) (by simp [flatT])
       | true =>
         have LK := hid (lookT (P := P) (o := o) HA.out)
         have CT : Hid (∀ b2 W, All (blkC P CJ 36 :: blkC b2 ((lookL o).map (thV P)) 20 :: blkC b LV 20 :: cs) W → Calls Tryz.prog 53 #[.slice (some ⟨b2, 0, none⟩) (lookL o).length (lookL o).length] W (fun e w' => e = .returned (.bool (okL (lookL o) CJ)) ∧ All (blkC P (clrL (lookL o) CJ) 36 :: blkC b2 ((lookL o).map (thV P)) 20 :: blkC b LV 20 :: cs) w')) := hid (fun b2 W hW => HNN.out rfl b2 (lookL o) CJ _ W (flat_look o) (by simp [lookL]) (TpL_flat (flat_look o) TPT.out) hW)
         have OK : Hid (okL (l.take (j + 1)) C = (B && okL (lookL o) CJ) ∧ clrL (l.take (j + 1)) C = clrL (lookL o) CJ) := hid (by rw [NX.out.1, NX.out.2, (okL_flat (flat_look o)).1, (okL_flat (flat_look o)).2]; exact ⟨rfl, rfl⟩)
         generalize okL (lookL o) CJ = R at *
         have DR : Hid (∀ b2 W, All (blkC P (clrL (lookL o) CJ) 36 :: blkC b2 ((lookL o).map (thV P)) 20 :: blkC b LV 20 :: cs) W → All (blkC P (clrL (l.take (j + 1)) C) 36 :: blkC b LV 20 :: cs) W) := hid (fun b2 W hW => by rw [OK.out.2]; exact (hW.perm (List.Perm.swap _ _ _)).tail)
         simp only [thV] at hcb
         clear TPT NX FT
         have ta0 : ∀ W : World, (Instr.typeAssert (.iface 102 (.pointer (some ⟨P, o, none⟩))) 20 97 true).run Tryz.prog W = .ok (.tuple #[.pointer none, .bool false]) W := fun W => by kernel_rfl
         have ta1 : ∀ W : World, (Instr.typeAssert (.iface 102 (.pointer (some ⟨P, o, none⟩))) 20 98 true).run Tryz.prog W = .ok (.tuple #[.pointer none, .bool false]) W := fun W => by kernel_rfl
         have ta2 : ∀ W : World, (Instr.typeAssert (.iface 102 (.pointer (some ⟨P, o, none⟩))) 20 140 true).run Tryz.prog W = .ok (.tuple #[.agg #[.pointer none], .bool false]) W := fun W => by kernel_rfl
         have ta3 : ∀ W : World, (Instr.typeAssert (.iface 102 (.pointer (some ⟨P, o, none⟩))) 20 141 true).run Tryz.prog W = .ok (.tuple #[.pointer none, .bool false]) W := fun W => by kernel_rfl
         have ta4 : ∀ W : World, (Instr.typeAssert (.iface 102 (.pointer (some ⟨P, o, none⟩))) 20 101 true).run Tryz.prog W = .ok (.tuple #[.pointer none, .bool false]) W := fun W => by kernel_rfl
         have ta5 : ∀ W : World, (Instr.typeAssert (.iface 102 (.pointer (some ⟨P, o, none⟩))) 20 99 true).run Tryz.prog W = .ok (.tuple #[.pointer none, .bool false]) W := fun W => by kernel_rfl
         have ta6 : ∀ W : World, (Instr.typeAssert (.iface 102 (.pointer (some ⟨P, o, none⟩))) 20 100 true).run Tryz.prog W = .ok (.tuple #[.pointer none, .bool false]) W := fun W => by kernel_rfl
         have ta7 : ∀ W : World, (Instr.typeAssert (.iface 102 (.pointer (some ⟨P, o, none⟩))) 20 102 true).run Tryz.prog W = .ok (.tuple #[.pointer (some ⟨P, o, none⟩), .bool true]) W := fun W => by kernel_rfl
         cases R <;> cases B
         all_goals
          go_wp2_with (first | (go_at_call 84; refine LK.out.mono ?_; rintro e w2 ⟨b2, rfl, A2⟩; have K1 := hid (A2.perm (List.Perm.swap _ _ _)); clear A2) | (go_at_call 53; refine (CT.out _ _ K1.out).mono ?_; rintro e w3 ⟨rfl, A3⟩; have KN := hid (DR.out _ _ A3); clear A3))
          go_roundw
          case rel => exact ⟨j + 1, by omega, by go_num, by rw [OK.out.1]; rfl, KN⟩
          case measure => simp [intOf]; omega
     | sht o =>
       cases N with
       | false => exact absurd (FT.out rfl) (by simp [flatT])
       | true =>
         have LK := hid (sheetT (P := P) (o := o) HA.out)
         have CT : Hid (∀ b2 W, All (blkC P CJ 36 :: blkC b2 ((shtL o).map (thV P)) 20 :: blkC b LV 20 :: cs) W → Calls Tryz.prog 53 #[.slice (some ⟨b2, 0, none⟩) (shtL o).length (shtL o).length] W (fun e w' => e = .returned (.bool (okL (shtL o) CJ)) ∧ All (blkC P (clrL (shtL o) CJ) 36 :: blkC b2 ((shtL o).map (thV P)) 20 :: blkC b LV 20 :: cs) w')) := hid (fun b2 W hW => HNN.out rfl b2 (shtL o) CJ _ W (flat_sht o) (by simp [shtL]) (TpL_flat (flat_sht o) TPT.out) hW)
         have OK : Hid (okL (l.take (j + 1)) C = (B && okL (shtL o) CJ) ∧ clrL (l.take (j + 1)) C = clrL (shtL o) CJ) := hid (by rw [NX.out.1, NX.out.2, (okL_flat (flat_sht o)).1, (okL_flat (flat_sht o)).2]; exact ⟨rfl, rfl⟩)
         generalize okL (shtL o) CJ = R at *
         have DR : Hid (∀ b2 W, All (blkC P (clrL (shtL o) CJ) 36 :: blkC b2 ((shtL o).map (thV P)) 20 :: blkC b LV 20 :: cs) W → All (blkC P (clrL (l.take (j + 1)) C) 36 :: blkC b LV 20 :: cs) W) := hid (fun b2 W hW => by rw [OK.out.2]; exact (hW.perm (List.Perm.swap _ _ _)).tail)
         simp only [thV] at hcb
         clear TPT NX FT
         have ta0 : ∀ W : World, (Instr.typeAssert (.iface 103 (.pointer (some ⟨P, o, none⟩))) 20 97 true).run Tryz.prog W = .ok (.tuple #[.pointer none, .bool false]) W := fun W => by kernel_rfl
         have ta1 : ∀ W : World, (Instr.typeAssert (.iface 103 (.pointer (some ⟨P, o, none⟩))) 20 98 true).run Tryz.prog W = .ok (.tuple #[.pointer none, .bool false]) W := fun W => by kernel_rfl
         have ta2 : ∀ W : World, (Instr.typeAssert (.iface 103 (.pointer (some ⟨P, o, none⟩))) 20 140 true).run Tryz.prog W = .ok (.tuple #[.agg #[.pointer none], .bool false]) W := fun W => by kernel_rfl
         have ta3 : ∀ W : World, (Instr.typeAssert (.iface 103 (.pointer (some ⟨P, o, none⟩))) 20 141 true).run Tryz.prog W = .ok (.tuple #[.pointer none, .bool false]) W := fun W => by kernel_rfl
         have ta4 : ∀ W : World, (Instr.typeAssert (.iface 103 (.pointer (some ⟨P, o, none⟩))) 20 101 true).run Tryz.prog W = .ok (.tuple #[.pointer none, .bool false]) W := fun W => by kernel_rfl
         have ta5 : ∀ W : World, (Instr.typeAssert (.iface 103 (.pointer (some ⟨P, o, none⟩))) 20 99 true).run Tryz.prog W = .ok (.tuple #[.pointer none, .bool false]) W := fun W => by kernel_rfl
         have ta6 : ∀ W : World, (Instr.typeAssert (.iface 103 (.pointer (some ⟨P, o, none⟩))) 20 100 true).run Tryz.prog W = .ok (.tuple #[.pointer none, .bool false]) W := fun W => by kernel_rfl
         have ta7 : ∀ W : World, (Instr.typeAssert (.iface 103 (.pointer (some ⟨P, o, none⟩))) 20 102 true).run Tryz.prog W = .ok (.tuple #[.pointer none, .bool false]) W := fun W => by kernel_rfl
         have ta8 : ∀ W : World, (Instr.typeAssert (.iface 103 (.pointer (some ⟨P, o, none⟩))) 20 103 true).run Tryz.prog W = .ok (.tuple #[.pointer (some ⟨P, o, none⟩), .bool true]) W := fun W => by kernel_rfl
         cases R <;> cases B
         all_goals
          go_wp2_with (first | (go_at_call 85; refine LK.out.mono ?_; rintro e w2 ⟨b2, rfl, A2⟩; have K1 := hid (A2.perm (List.Perm.swap _ _ _)); clear A2) | (go_at_call 53; refine (CT.out _ _ K1.out).mono ?_; rintro e w3 ⟨rfl, A3⟩; have KN := hid (DR.out _ _ A3); clear A3))
          go_roundw
          case rel => exact ⟨j + 1, by omega, by go_num, by rw [OK.out.1]; rfl, KN⟩
          case measure => simp [intOf]; omega
   · have hlt' : ¬ (j : Int) < (n : Int) := by omega
     have ej : j = n := by omega
     have FN : Hid (All (blkC P (clrL l C) 36 :: blkC b LV 20 :: cs) wr) := hid (by have := HA.out; rw [ej, FIN.out.2] at this; exact this)
     have OK : Hid (okL (l.take j) C = okL l C) := hid (by rw [ej]; exact FIN.out.1)
     clear ej
     go_wp2
     go_ret
     exact ⟨by rw [OK.out]; rfl, FN.out⟩
theorem takeOut_flat {P b : Nat} {l : List Th} {C : List Value} {cs : List Comp} {w : World} (hf : ∀ t ∈ l, flatT t = true) (hlen : l.length ≤ 100) (hL : TpL l C) (A : All (blkC P C 36 :: blkC b (l.map (thV P)) 20 :: cs) w) :
   Calls Tryz.prog 53 #[.slice (some ⟨b, 0, none⟩) l.length l.length] w (TkPost P b l (l.map (thV P)) C cs) := takeOut_gen false (fun _ => hf) (fun h => absurd h (by decide)) hlen hL A
theorem takeOut_any {P b : Nat} {l : List Th} {C : List Value} {cs : List Comp} {w : World} (hlen : l.length ≤ 100) (hL : TpL l C) (A : All (blkC P C 36 :: blkC b (l.map (thV P)) 20 :: cs) w) :
   Calls Tryz.prog 53 #[.slice (some ⟨b, 0, none⟩) l.length l.length] w (TkPost P b l (l.map (thV P)) C cs) := takeOut_gen true (fun h => absurd h (by decide)) (fun _ b' l' C' ds W hf hl' hT hA => takeOut_flat hf hl' hT hA) hlen hL A
end Go.Proofs.YtfeppannfcbakaaGreatDoor

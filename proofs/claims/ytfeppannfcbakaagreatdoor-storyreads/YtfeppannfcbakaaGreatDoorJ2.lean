import Derived.Test.YtfeppannfcbakaaGreatDoorJ1
import Derived.Shelf.Small.Strs
import Derived.Test.YtfeppannfcbakaaGreatDoorProg
import Derived.Shelf.Strings.BuilderK
import Derived.Lib.AppendStr
import Derived.Test.YtfeppannfcbakaaGreatDoorEv2
namespace Go.Proofs.YtfeppannfcbakaaGreatDoor
open Go.RowKit
set_option linter.unusedVariables false
set_option maxRecDepth 1000000
set_option maxHeartbeats 800000
abbrev rdV (st : Int) (wv dv : Value) (op es cd : Int) : List Value := [.int .i64 st, wv, dv, .int .i64 op, .int .i64 es, .int .u8 cd]
abbrev rdL (B : Nat) (st : Int) (wv dv : Value) (op es cd : Int) (ws : Ws) (wd : List UInt8) : List Comp := [blkC B (rdV st wv dv op es cd) 119, ownC 9 wv (txW ws), ownC 5 dv (cellsB wd)]
theorem rd_cells {B : Nat} {st : Int} {wv dv : Value} {op es cd : Int} {cs : List Comp} {w : World} (h : All (blkC B (rdV st wv dv op es cd) 119 :: cs) w) :
   (w.cell? ⟨B, 0, none⟩ = some (.int .i64 st) ∧ w.cell? ⟨B, 1, none⟩ = some wv ∧ w.cell? ⟨B, 2, none⟩ = some dv ∧ w.cell? ⟨B, 3, none⟩ = some (.int .i64 op) ∧ w.cell? ⟨B, 4, none⟩ = some (.int .i64 es) ∧ w.cell? ⟨B, 5, none⟩ = some (.int .u8 cd)) ∧ ∀ j, w.frozen? ⟨B, j, none⟩ = false := by
 have hb := h.1.2.1
 exact ⟨⟨by rw [cell_at hb]; rfl, by rw [cell_at hb]; rfl, by rw [cell_at hb]; rfl, by rw [cell_at hb]; rfl, by rw [cell_at hb]; rfl, by rw [cell_at hb]; rfl⟩, fun j => free_at hb j⟩
theorem begin_any {B : Nat} {st s : Int} {wv dv : Value} {op es cd : Int} {ws : Ws} {wd : List UInt8} {cs : List Comp} {w : World} (h : All (rdL B st wv dv op es cd ws wd ++ cs) w) :
   Calls Tryz.prog 66 #[ptr B, .int .i64 s] w fun e w' => e = .returned (.tuple #[]) ∧ All (rdL B s wv (.slice none 0 0) op es cd ws [] ++ cs) w' := by
 obtain ⟨⟨s0, s1, s2, s3, s4, s5⟩, hf⟩ := rd_cells h
 have f0 := hf 0
 have f2 := hf 2
 have A1 := (h.setBlk 2 (.slice none 0 0)).setBlk 0 (.int .i64 s)
 have A2 : Hid (All (rdL B s wv (.slice none 0 0) op es cd ws [] ++ cs) ((w.setCell ⟨B, 2, none⟩ (.slice none 0 0)).setCell ⟨B, 0, none⟩ (.int .i64 s))) := by
   have A3 : All (blkC B (rdV s wv (.slice none 0 0) op es cd) 119 :: ownC 9 wv (txW ws) :: cs) ((w.setCell ⟨B, 2, none⟩ (.slice none 0 0)).setCell ⟨B, 0, none⟩ (.int .i64 s)) := by
     have := A1.perm (ds := ownC 5 dv (cellsB wd) :: blkC B (rdV s wv (.slice none 0 0) op es cd) 119 :: ownC 9 wv (txW ws) :: cs) (by
       refine List.Perm.trans ?_ (List.perm_middle (l₁ := [blkC B (rdV s wv (.slice none 0 0) op es cd) 119, ownC 9 wv (txW ws)]))
       exact List.Perm.refl _)
     exact this.tail
   have := (All.addNil (e := 5) A3).perm (ds := rdL B s wv (.slice none 0 0) op es cd ws [] ++ cs) (by
     refine List.Perm.symm (List.Perm.trans ?_ (List.perm_middle (l₁ := [blkC B (rdV s wv (.slice none 0 0) op es cd) 119, ownC 9 wv (txW ws)])))
     exact List.Perm.refl _)
   exact this
 clear A1 h hf
 go_enter Tryz.func66, Tryz.ntmps66
 go_wp2
 go_end0
 exact ⟨rfl, A2.out⟩
theorem perm3a {α : Type} (a b c : α) (cs : List α) : (a :: b :: c :: cs).Perm (c :: a :: b :: cs) := by
 refine List.Perm.trans ?_ (List.perm_middle (l₁ := [a, b]) (a := c) (l₂ := cs))
 exact List.Perm.refl _
theorem take_any {B : Nat} {st : Int} {wv dv : Value} {op es cd : Int} {ws : Ws} {wd : List UInt8} {b : UInt8} {cs : List Comp} {w : World} (h : All (rdL B st wv dv op es cd ws wd ++ cs) w) (hl : wd.length + 1 ≤ 140737488355328) :
   Calls Tryz.prog 129 #[ptr B, .int .u8 (b.toNat : Int)] w fun e w' => e = .returned (.tuple #[]) ∧ ∃ dv', All (rdL B 3 wv dv' op es cd ws (wd ++ [b]) ++ cs) w' := by
 obtain ⟨⟨s0, s1, s2, s3, s4, s5⟩, hf⟩ := rd_cells h
 obtain ⟨ao0, c0, rfl⟩ := owns_form (h.tail.tail.1.2.1 : w.ownsRow 0 5 1 dv _ _)
 have hBw : B < w.heap.size := (h.1.2.2 B (by simp [blkC]))
 obtain ⟨ao, c, w1, hr, A1⟩ := app_byte (h.perm (perm3a _ _ _ _)) b hl
 have hb1 := A1.tail.1.2.1
 obtain ⟨⟨t0, t1, t2, t3, t4, t5⟩, hf1⟩ := rd_cells A1.tail
 have f0 := hf1 0
 have f2 := hf1 2
 have A2 := hid (((A1.perm (perm3a _ _ _ _).symm).setBlk 2 (.slice ao (wd.length + 1) c)).setBlk 0 (.int .i64 3))
 rw [cellsB_length] at *
 have R := hid hr
 clear hr A1 h hf1 hb1 hf
 generalize hn : wd.length = n at *
 clear hn
 generalize (b.toNat : Int) = bi at *
 go_enter Tryz.func129, Tryz.ntmps129
 go_wp2_with (at_builtin; refine wpList_append_run rfl _ _ 32 rfl _ _ _ _ rfl rfl R.out ?_)
 go_end0
 exact ⟨rfl, _, A2.out⟩
set_option linter.unusedVariables false
set_option maxRecDepth 1000000
set_option maxHeartbeats 1600000
theorem end_any {B : Nat} {st : Int} {wv dv : Value} {op es cd : Int} {ws : Ws} {wd : List UInt8} {cs : List Comp} {w : World} (h : All (rdL B st wv dv op es cd ws wd ++ cs) w) (hl : ws.length + 1 ≤ 1000000000000) :
   Calls Tryz.prog 68 #[ptr B] w fun e w' => e = .returned (.tuple #[]) ∧ ∃ wv', All (rdL B st wv' dv op es cd (ws ++ [wd]) wd ++ cs) w' := by
 have h := h.drew
 obtain ⟨⟨s0, s1, s2, s3, s4, s5⟩, hf⟩ := rd_cells h
 obtain ⟨ao0, c0, rfl⟩ := owns_form (h.tail.tail.1.2.1 : w.drew.ownsRow 0 5 1 dv _ _)
 obtain ⟨ao1, c1, rfl⟩ := owns_form (h.tail.1.2.1 : w.drew.ownsRow 0 9 1 wv _ _)
 have hBw : B < w.drew.heap.size := (h.1.2.2 B (by simp [blkC]))
 have cv := conv_string (reads_own h.tail.tail)
 have u1 : (w.alloc (.cells #[.string ⟨wd.toArray⟩] 9)).cell? ⟨B, 1, none⟩ = _ := cell_under (ba w.drew (.cells #[.string ⟨wd.toArray⟩] 9)) hBw s1
 obtain ⟨ao, c, w1, hr, A1⟩ := app_txt h.swap wd hl
 obtain ⟨⟨t0, t1, t2, t3, t4, t5⟩, hf1⟩ := rd_cells A1.swap
 have f1 := hf1 1
 have A2 := hid (A1.swap.setBlk 1 (.slice ao (ws.length + 1) c))
 rw [txW_length, cellsB_length] at *
 have R := hid hr
 clear hr A1 h hf1 hf
 generalize hn : wd.length = n at *
 clear hn
 generalize hm : ws.length = m at *
 clear hm
 generalize hx : ByteArray.mk wd.toArray = X at *
 clear hx
 go_enter Tryz.func68, Tryz.ntmps68
 go_wp2_with fail
 go_region_law (refine step_append_run (by rfl) (.tmp 6) (.tmp 12) 27 (by rfl) _ _ _ _ (by rfl) (by rfl) R.out ?_)
 all_goals (go_end0; exact ⟨rfl, _, A2.out⟩)
end Go.Proofs.YtfeppannfcbakaaGreatDoor

/- strings.IndexByte at this program: which number is which. -/
namespace Go.Proofs
open Go.Shelf
def Tryz.lays137_ren : Go.Shelf.Ren := ⟨fun | 137 => 104 | 217 => 130 | 266 => 147 | n => n, fun | 9 => 9 | 5 => 5 | 3 => 3 | n => n, fun | n => n⟩
theorem Tryz.lays137 : Go.Proofs.Lays.n137 Tryz.prog Tryz.lays137_ren := {
  mixed := by kernel_rfl
  f137 := Tryz.func104.trans (congrArg some (by kernel_rfl))
  f217 := Tryz.func130.trans (congrArg some (by kernel_rfl))
  f266 := Tryz.func147.trans (congrArg some (by kernel_rfl))
  t3 := Tryz.underlying3
  a3 := Tryz.isAgg3
  z3 := Tryz.sizeOf3
  v3 := Tryz.zeroValue3
  t5 := Tryz.underlying5
  a5 := Tryz.isAgg5
  z5 := Tryz.sizeOf5
  v5 := Tryz.zeroValue5
  t9 := Tryz.underlying9
  a9 := Tryz.isAgg9
  z9 := Tryz.sizeOf9
  v9 := Tryz.zeroValue9 }
end Go.Proofs

namespace Go.Proofs.YtfeppannfcbakaaGreatDoor
open Go.RowKit
set_option linter.unusedVariables false
set_option maxRecDepth 1000000
def bareI (k : Int) : Bool := decide ((97 ≤ k ∧ k ≤ 122) ∨ (65 ≤ k ∧ k ≤ 90) ∨ (48 ≤ k ∧ k ≤ 57) ∨ k = 45 ∨ k = 95 ∨ k = 46 ∨ k = 47)
theorem bareI_nat (n : Nat) : bareI (n : Int) = bareN n := by
 unfold bareI bareN
 rw [Bool.eq_iff_iff]
 simp only [decide_eq_true_eq]
 omega
def prnI (k : Int) : Bool := decide (32 ≤ k ∧ k ≤ 126)
theorem prnI_nat (n : Nat) : prnI (n : Int) = prnN n := by
 unfold prnI prnN
 rw [Bool.eq_iff_iff]
 simp only [decide_eq_true_eq]
 omega
theorem isBare_int (k : Int) (w : World) : Calls Tryz.prog 67 #[.int .u8 k] w fun e w' => e = .returned (.bool (bareI k)) ∧ w' = w := by
 have key : ∀ b, bareI k = b → Hid (bareI k = b) := fun b h => h
 by_cases e45 : k = 45
 · subst e45
   have H := key true (decide_eq_true (by omega))
   clear key
   go_enter Tryz.func67, Tryz.ntmps67
   go_wp2
   go_ret
   exact ⟨by rw [H.out]; rfl, rfl⟩
 have n45 : (k == 45) = false := by simpa using e45
 by_cases e95 : k = 95
 · subst e95
   have H := key true (decide_eq_true (by omega))
   clear key
   go_enter Tryz.func67, Tryz.ntmps67
   go_wp2
   go_ret
   exact ⟨by rw [H.out]; rfl, rfl⟩
 have n95 : (k == 95) = false := by simpa using e95
 by_cases e46 : k = 46
 · subst e46
   have H := key true (decide_eq_true (by omega))
   clear key
   go_enter Tryz.func67, Tryz.ntmps67
   go_wp2
   go_ret
   exact ⟨by rw [H.out]; rfl, rfl⟩
 have n46 : (k == 46) = false := by simpa using e46
 by_cases e47 : k = 47
 · subst e47
   have H := key true (decide_eq_true (by omega))
   clear key
   go_enter Tryz.func67, Tryz.ntmps67
   go_wp2
   go_ret
   exact ⟨by rw [H.out]; rfl, rfl⟩
 have n47 : (k == 47) = false := by simpa using e47
 by_cases a97 : 97 ≤ k
 · by_cases b122 : k ≤ 122
   · have H := key true (decide_eq_true (by omega))
     clear key
     go_enter Tryz.func67, Tryz.ntmps67
     go_wp2
     go_ret
     exact ⟨by rw [H.out]; rfl, rfl⟩
   · by_cases a65 : 65 ≤ k
     · by_cases b90 : k ≤ 90
       · have H := key true (decide_eq_true (by omega))
         clear key
         go_enter Tryz.func67, Tryz.ntmps67
         go_wp2
         go_ret
         exact ⟨by rw [H.out]; rfl, rfl⟩
       · by_cases a48 : 48 ≤ k
         · by_cases b57 : k ≤ 57
           · have H := key true (decide_eq_true (by omega))
             clear key
             go_enter Tryz.func67, Tryz.ntmps67
             go_wp2
             go_ret
             exact ⟨by rw [H.out]; rfl, rfl⟩
           · have H := key false (decide_eq_false (by omega))
             clear key
             go_enter Tryz.func67, Tryz.ntmps67
             go_wp2
             go_ret
             exact ⟨by rw [H.out]; rfl, rfl⟩
         · have H := key false (decide_eq_false (by omega))
           clear key
           go_enter Tryz.func67, Tryz.ntmps67
           go_wp2
           go_ret
           exact ⟨by rw [H.out]; rfl, rfl⟩
     · by_cases a48 : 48 ≤ k
       · by_cases b57 : k ≤ 57
         · have H := key true (decide_eq_true (by omega))
           clear key
           go_enter Tryz.func67, Tryz.ntmps67
           go_wp2
           go_ret
           exact ⟨by rw [H.out]; rfl, rfl⟩
         · have H := key false (decide_eq_false (by omega))
           clear key
           go_enter Tryz.func67, Tryz.ntmps67
           go_wp2
           go_ret
           exact ⟨by rw [H.out]; rfl, rfl⟩
       · have H := key false (decide_eq_false (by omega))
         clear key
         go_enter Tryz.func67, Tryz.ntmps67
         go_wp2
         go_ret
         exact ⟨by rw [H.out]; rfl, rfl⟩
 · by_cases a65 : 65 ≤ k
   · by_cases b90 : k ≤ 90
     · have H := key true (decide_eq_true (by omega))
       clear key
       go_enter Tryz.func67, Tryz.ntmps67
       go_wp2
       go_ret
       exact ⟨by rw [H.out]; rfl, rfl⟩
     · by_cases a48 : 48 ≤ k
       · by_cases b57 : k ≤ 57
         · have H := key true (decide_eq_true (by omega))
           clear key
           go_enter Tryz.func67, Tryz.ntmps67
           go_wp2
           go_ret
           exact ⟨by rw [H.out]; rfl, rfl⟩
         · have H := key false (decide_eq_false (by omega))
           clear key
           go_enter Tryz.func67, Tryz.ntmps67
           go_wp2
           go_ret
           exact ⟨by rw [H.out]; rfl, rfl⟩
       · have H := key false (decide_eq_false (by omega))
         clear key
         go_enter Tryz.func67, Tryz.ntmps67
         go_wp2
         go_ret
         exact ⟨by rw [H.out]; rfl, rfl⟩
   · by_cases a48 : 48 ≤ k
     · by_cases b57 : k ≤ 57
       · have H := key true (decide_eq_true (by omega))
         clear key
         go_enter Tryz.func67, Tryz.ntmps67
         go_wp2
         go_ret
         exact ⟨by rw [H.out]; rfl, rfl⟩
       · have H := key false (decide_eq_false (by omega))
         clear key
         go_enter Tryz.func67, Tryz.ntmps67
         go_wp2
         go_ret
         exact ⟨by rw [H.out]; rfl, rfl⟩
     · have H := key false (decide_eq_false (by omega))
       clear key
       go_enter Tryz.func67, Tryz.ntmps67
       go_wp2
       go_ret
       exact ⟨by rw [H.out]; rfl, rfl⟩
theorem isBare_any (b : UInt8) (w : World) : Calls Tryz.prog 67 #[.int .u8 (b.toNat : Int)] w fun e w' => e = .returned (.bool (bareN b.toNat)) ∧ w' = w := by
 rw [← bareI_nat]
 exact isBare_int _ _
theorem rbare_int (k : Int) (w : World) : Calls Tryz.prog 41 #[.int .u8 k] w fun e w' => e = .returned (.bool (bareI k)) ∧ w' = w := by
 have key : ∀ b, bareI k = b → Hid (bareI k = b) := fun b h => h
 by_cases a97 : 97 ≤ k
 · by_cases b122 : k ≤ 122
   · have H := key true (decide_eq_true (by omega))
     clear key
     go_enter Tryz.func41, Tryz.ntmps41
     go_wp2
     go_ret
     exact ⟨by rw [H.out]; rfl, rfl⟩
   · by_cases a65 : 65 ≤ k
     · by_cases b90 : k ≤ 90
       · have H := key true (decide_eq_true (by omega))
         clear key
         go_enter Tryz.func41, Tryz.ntmps41
         go_wp2
         go_ret
         exact ⟨by rw [H.out]; rfl, rfl⟩
       · by_cases a48 : 48 ≤ k
         · by_cases b57 : k ≤ 57
           · have H := key true (decide_eq_true (by omega))
             clear key
             go_enter Tryz.func41, Tryz.ntmps41
             go_wp2
             go_ret
             exact ⟨by rw [H.out]; rfl, rfl⟩
           · by_cases e45 : k = 45
             · subst e45
               have H := key true (decide_eq_true (by omega))
               clear key
               go_enter Tryz.func41, Tryz.ntmps41
               go_wp2
               go_ret
               exact ⟨by rw [H.out]; rfl, rfl⟩
             have n45 : (k == 45) = false := by simpa using e45
             by_cases e95 : k = 95
             · subst e95
               have H := key true (decide_eq_true (by omega))
               clear key
               go_enter Tryz.func41, Tryz.ntmps41
               go_wp2
               go_ret
               exact ⟨by rw [H.out]; rfl, rfl⟩
             have n95 : (k == 95) = false := by simpa using e95
             by_cases e46 : k = 46
             · subst e46
               have H := key true (decide_eq_true (by omega))
               clear key
               go_enter Tryz.func41, Tryz.ntmps41
               go_wp2
               go_ret
               exact ⟨by rw [H.out]; rfl, rfl⟩
             have n46 : (k == 46) = false := by simpa using e46
             by_cases e47 : k = 47
             · subst e47
               have H := key true (decide_eq_true (by omega))
               clear key
               go_enter Tryz.func41, Tryz.ntmps41
               go_wp2
               go_ret
               exact ⟨by rw [H.out]; rfl, rfl⟩
             have n47 : (k == 47) = false := by simpa using e47
             have H := key false (decide_eq_false (by omega))
             clear key
             go_enter Tryz.func41, Tryz.ntmps41
             go_wp2
             go_ret
             exact ⟨by rw [H.out]; rfl, rfl⟩
         · by_cases e45 : k = 45
           · subst e45
             have H := key true (decide_eq_true (by omega))
             clear key
             go_enter Tryz.func41, Tryz.ntmps41
             go_wp2
             go_ret
             exact ⟨by rw [H.out]; rfl, rfl⟩
           have n45 : (k == 45) = false := by simpa using e45
           by_cases e95 : k = 95
           · subst e95
             have H := key true (decide_eq_true (by omega))
             clear key
             go_enter Tryz.func41, Tryz.ntmps41
             go_wp2
             go_ret
             exact ⟨by rw [H.out]; rfl, rfl⟩
           have n95 : (k == 95) = false := by simpa using e95
           by_cases e46 : k = 46
           · subst e46
             have H := key true (decide_eq_true (by omega))
             clear key
             go_enter Tryz.func41, Tryz.ntmps41
             go_wp2
             go_ret
             exact ⟨by rw [H.out]; rfl, rfl⟩
           have n46 : (k == 46) = false := by simpa using e46
           by_cases e47 : k = 47
           · subst e47
             have H := key true (decide_eq_true (by omega))
             clear key
             go_enter Tryz.func41, Tryz.ntmps41
             go_wp2
             go_ret
             exact ⟨by rw [H.out]; rfl, rfl⟩
           have n47 : (k == 47) = false := by simpa using e47
           have H := key false (decide_eq_false (by omega))
           clear key
           go_enter Tryz.func41, Tryz.ntmps41
           go_wp2
           go_ret
           exact ⟨by rw [H.out]; rfl, rfl⟩
     · by_cases a48 : 48 ≤ k
       · by_cases b57 : k ≤ 57
         · have H := key true (decide_eq_true (by omega))
           clear key
           go_enter Tryz.func41, Tryz.ntmps41
           go_wp2
           go_ret
           exact ⟨by rw [H.out]; rfl, rfl⟩
         · by_cases e45 : k = 45
           · subst e45
             have H := key true (decide_eq_true (by omega))
             clear key
             go_enter Tryz.func41, Tryz.ntmps41
             go_wp2
             go_ret
             exact ⟨by rw [H.out]; rfl, rfl⟩
           have n45 : (k == 45) = false := by simpa using e45
           by_cases e95 : k = 95
           · subst e95
             have H := key true (decide_eq_true (by omega))
             clear key
             go_enter Tryz.func41, Tryz.ntmps41
             go_wp2
             go_ret
             exact ⟨by rw [H.out]; rfl, rfl⟩
           have n95 : (k == 95) = false := by simpa using e95
           by_cases e46 : k = 46
           · subst e46
             have H := key true (decide_eq_true (by omega))
             clear key
             go_enter Tryz.func41, Tryz.ntmps41
             go_wp2
             go_ret
             exact ⟨by rw [H.out]; rfl, rfl⟩
           have n46 : (k == 46) = false := by simpa using e46
           by_cases e47 : k = 47
           · subst e47
             have H := key true (decide_eq_true (by omega))
             clear key
             go_enter Tryz.func41, Tryz.ntmps41
             go_wp2
             go_ret
             exact ⟨by rw [H.out]; rfl, rfl⟩
           have n47 : (k == 47) = false := by simpa using e47
           have H := key false (decide_eq_false (by omega))
           clear key
           go_enter Tryz.func41, Tryz.ntmps41
           go_wp2
           go_ret
           exact ⟨by rw [H.out]; rfl, rfl⟩
       · by_cases e45 : k = 45
         · subst e45
           have H := key true (decide_eq_true (by omega))
           clear key
           go_enter Tryz.func41, Tryz.ntmps41
           go_wp2
           go_ret
           exact ⟨by rw [H.out]; rfl, rfl⟩
         have n45 : (k == 45) = false := by simpa using e45
         by_cases e95 : k = 95
         · subst e95
           have H := key true (decide_eq_true (by omega))
           clear key
           go_enter Tryz.func41, Tryz.ntmps41
           go_wp2
           go_ret
           exact ⟨by rw [H.out]; rfl, rfl⟩
         have n95 : (k == 95) = false := by simpa using e95
         by_cases e46 : k = 46
         · subst e46
           have H := key true (decide_eq_true (by omega))
           clear key
           go_enter Tryz.func41, Tryz.ntmps41
           go_wp2
           go_ret
           exact ⟨by rw [H.out]; rfl, rfl⟩
         have n46 : (k == 46) = false := by simpa using e46
         by_cases e47 : k = 47
         · subst e47
           have H := key true (decide_eq_true (by omega))
           clear key
           go_enter Tryz.func41, Tryz.ntmps41
           go_wp2
           go_ret
           exact ⟨by rw [H.out]; rfl, rfl⟩
         have n47 : (k == 47) = false := by simpa using e47
         have H := key false (decide_eq_false (by omega))
         clear key
         go_enter Tryz.func41, Tryz.ntmps41
         go_wp2
         go_ret
         exact ⟨by rw [H.out]; rfl, rfl⟩
 · by_cases a65 : 65 ≤ k
   · by_cases b90 : k ≤ 90
     · have H := key true (decide_eq_true (by omega))
       clear key
       go_enter Tryz.func41, Tryz.ntmps41
       go_wp2
       go_ret
       exact ⟨by rw [H.out]; rfl, rfl⟩
     · by_cases a48 : 48 ≤ k
       · by_cases b57 : k ≤ 57
         · have H := key true (decide_eq_true (by omega))
           clear key
           go_enter Tryz.func41, Tryz.ntmps41
           go_wp2
           go_ret
           exact ⟨by rw [H.out]; rfl, rfl⟩
         · by_cases e45 : k = 45
           · subst e45
             have H := key true (decide_eq_true (by omega))
             clear key
             go_enter Tryz.func41, Tryz.ntmps41
             go_wp2
             go_ret
             exact ⟨by rw [H.out]; rfl, rfl⟩
           have n45 : (k == 45) = false := by simpa using e45
           by_cases e95 : k = 95
           · subst e95
             have H := key true (decide_eq_true (by omega))
             clear key
             go_enter Tryz.func41, Tryz.ntmps41
             go_wp2
             go_ret
             exact ⟨by rw [H.out]; rfl, rfl⟩
           have n95 : (k == 95) = false := by simpa using e95
           by_cases e46 : k = 46
           · subst e46
             have H := key true (decide_eq_true (by omega))
             clear key
             go_enter Tryz.func41, Tryz.ntmps41
             go_wp2
             go_ret
             exact ⟨by rw [H.out]; rfl, rfl⟩
           have n46 : (k == 46) = false := by simpa using e46
           by_cases e47 : k = 47
           · subst e47
             have H := key true (decide_eq_true (by omega))
             clear key
             go_enter Tryz.func41, Tryz.ntmps41
             go_wp2
             go_ret
             exact ⟨by rw [H.out]; rfl, rfl⟩
           have n47 : (k == 47) = false := by simpa using e47
           have H := key false (decide_eq_false (by omega))
           clear key
           go_enter Tryz.func41, Tryz.ntmps41
           go_wp2
           go_ret
           exact ⟨by rw [H.out]; rfl, rfl⟩
       · by_cases e45 : k = 45
         · subst e45
           have H := key true (decide_eq_true (by omega))
           clear key
           go_enter Tryz.func41, Tryz.ntmps41
           go_wp2
           go_ret
           exact ⟨by rw [H.out]; rfl, rfl⟩
         have n45 : (k == 45) = false := by simpa using e45
         by_cases e95 : k = 95
         · subst e95
           have H := key true (decide_eq_true (by omega))
           clear key
           go_enter Tryz.func41, Tryz.ntmps41
           go_wp2
           go_ret
           exact ⟨by rw [H.out]; rfl, rfl⟩
         have n95 : (k == 95) = false := by simpa using e95
         by_cases e46 : k = 46
         · subst e46
           have H := key true (decide_eq_true (by omega))
           clear key
           go_enter Tryz.func41, Tryz.ntmps41
           go_wp2
           go_ret
           exact ⟨by rw [H.out]; rfl, rfl⟩
         have n46 : (k == 46) = false := by simpa using e46
         by_cases e47 : k = 47
         · subst e47
           have H := key true (decide_eq_true (by omega))
           clear key
           go_enter Tryz.func41, Tryz.ntmps41
           go_wp2
           go_ret
           exact ⟨by rw [H.out]; rfl, rfl⟩
         have n47 : (k == 47) = false := by simpa using e47
         have H := key false (decide_eq_false (by omega))
         clear key
         go_enter Tryz.func41, Tryz.ntmps41
         go_wp2
         go_ret
         exact ⟨by rw [H.out]; rfl, rfl⟩
   · by_cases a48 : 48 ≤ k
     · by_cases b57 : k ≤ 57
       · have H := key true (decide_eq_true (by omega))
         clear key
         go_enter Tryz.func41, Tryz.ntmps41
         go_wp2
         go_ret
         exact ⟨by rw [H.out]; rfl, rfl⟩
       · by_cases e45 : k = 45
         · subst e45
           have H := key true (decide_eq_true (by omega))
           clear key
           go_enter Tryz.func41, Tryz.ntmps41
           go_wp2
           go_ret
           exact ⟨by rw [H.out]; rfl, rfl⟩
         have n45 : (k == 45) = false := by simpa using e45
         by_cases e95 : k = 95
         · subst e95
           have H := key true (decide_eq_true (by omega))
           clear key
           go_enter Tryz.func41, Tryz.ntmps41
           go_wp2
           go_ret
           exact ⟨by rw [H.out]; rfl, rfl⟩
         have n95 : (k == 95) = false := by simpa using e95
         by_cases e46 : k = 46
         · subst e46
           have H := key true (decide_eq_true (by omega))
           clear key
           go_enter Tryz.func41, Tryz.ntmps41
           go_wp2
           go_ret
           exact ⟨by rw [H.out]; rfl, rfl⟩
         have n46 : (k == 46) = false := by simpa using e46
         by_cases e47 : k = 47
         · subst e47
           have H := key true (decide_eq_true (by omega))
           clear key
           go_enter Tryz.func41, Tryz.ntmps41
           go_wp2
           go_ret
           exact ⟨by rw [H.out]; rfl, rfl⟩
         have n47 : (k == 47) = false := by simpa using e47
         have H := key false (decide_eq_false (by omega))
         clear key
         go_enter Tryz.func41, Tryz.ntmps41
         go_wp2
         go_ret
         exact ⟨by rw [H.out]; rfl, rfl⟩
     · by_cases e45 : k = 45
       · subst e45
         have H := key true (decide_eq_true (by omega))
         clear key
         go_enter Tryz.func41, Tryz.ntmps41
         go_wp2
         go_ret
         exact ⟨by rw [H.out]; rfl, rfl⟩
       have n45 : (k == 45) = false := by simpa using e45
       by_cases e95 : k = 95
       · subst e95
         have H := key true (decide_eq_true (by omega))
         clear key
         go_enter Tryz.func41, Tryz.ntmps41
         go_wp2
         go_ret
         exact ⟨by rw [H.out]; rfl, rfl⟩
       have n95 : (k == 95) = false := by simpa using e95
       by_cases e46 : k = 46
       · subst e46
         have H := key true (decide_eq_true (by omega))
         clear key
         go_enter Tryz.func41, Tryz.ntmps41
         go_wp2
         go_ret
         exact ⟨by rw [H.out]; rfl, rfl⟩
       have n46 : (k == 46) = false := by simpa using e46
       by_cases e47 : k = 47
       · subst e47
         have H := key true (decide_eq_true (by omega))
         clear key
         go_enter Tryz.func41, Tryz.ntmps41
         go_wp2
         go_ret
         exact ⟨by rw [H.out]; rfl, rfl⟩
       have n47 : (k == 47) = false := by simpa using e47
       have H := key false (decide_eq_false (by omega))
       clear key
       go_enter Tryz.func41, Tryz.ntmps41
       go_wp2
       go_ret
       exact ⟨by rw [H.out]; rfl, rfl⟩
theorem rbare_any (b : UInt8) (w : World) : Calls Tryz.prog 41 #[.int .u8 (b.toNat : Int)] w fun e w' => e = .returned (.bool (bareN b.toNat)) ∧ w' = w := by
 rw [← bareI_nat]
 exact rbare_int _ _
theorem prn_int (k : Int) (w : World) : Calls Tryz.prog 123 #[.int .u8 k] w fun e w' => e = .returned (.bool (prnI k)) ∧ w' = w := by
 have key : ∀ b, prnI k = b → Hid (prnI k = b) := fun b h => h
 by_cases a32 : 32 ≤ k
 · by_cases b126 : k ≤ 126
   · have H := key true (decide_eq_true (by omega))
     clear key
     go_enter Tryz.func123, Tryz.ntmps123
     go_wp2
     go_ret
     exact ⟨by rw [H.out]; rfl, rfl⟩
   · have H := key false (decide_eq_false (by omega))
     clear key
     go_enter Tryz.func123, Tryz.ntmps123
     go_wp2
     go_ret
     exact ⟨by rw [H.out]; rfl, rfl⟩
 · have H := key false (decide_eq_false (by omega))
   clear key
   go_enter Tryz.func123, Tryz.ntmps123
   go_wp2
   go_ret
   exact ⟨by rw [H.out]; rfl, rfl⟩
theorem prn_any (b : UInt8) (w : World) : Calls Tryz.prog 123 #[.int .u8 (b.toNat : Int)] w fun e w' => e = .returned (.bool (prnN b.toNat)) ∧ w' = w := by
 rw [← prnI_nat]
 exact prn_int _ _
end Go.Proofs.YtfeppannfcbakaaGreatDoor

namespace Go.Proofs.YtfeppannfcbakaaGreatDoor
open Go.RowKit
set_option linter.unusedVariables false
set_option maxRecDepth 1000000
set_option maxHeartbeats 800000
theorem isBareW_of {l : List UInt8} (h : ∀ j, j < l.length → bareN (l.getD j 0).toNat = true) : isBareW l = decide (l ≠ []) := by
 unfold isBareW
 rw [Bool.eq_iff_iff]
 simp only [decide_eq_true_eq]
 constructor
 · exact fun h => h.1
 · refine fun h0 => ⟨h0, fun b hb => ?_⟩
   obtain ⟨j, hj, rfl⟩ := List.getElem_of_mem hb
   have := h j hj
   simpa [List.getD, hj] using this
theorem isBareW_no {l : List UInt8} {k : Nat} (hk : k < l.length) (h : bareN (l.getD k 0).toNat = false) : isBareW l = false := by
 unfold isBareW
 refine decide_eq_false (fun h2 => ?_)
 have := h2.2 l[k] (List.getElem_mem hk)
 have e : l.getD k 0 = l[k] := by simp [List.getD, hk]
 rw [e, this] at h
 cases h
theorem isBareWord_any {l : List UInt8} {w : World} (hl : l.length ≤ 140737488355328) : Calls Tryz.prog 91 #[.string ⟨l.toArray⟩] w fun e w' => e = .returned (.bool (isBareW l)) ∧ w' = w := by
 have hz : (⟨l.toArray⟩ : ByteArray).size = l.length := by simp [ByteArray.size]
 have IX : Hid (∀ k, k < l.length → ∀ W, (Instr.index 9 (.string ⟨l.toArray⟩) (.int .i64 (k : Int))).run Tryz.prog W = .ok (.int .u8 ((l.getD k 0).toNat : Int)) W) := fun k hk W => idx_at hk W
 have EM : Hid ((!(⟨l.toArray⟩ : ByteArray).toList.isEmpty) = decide (l ≠ [])) := hid <| by
   rw [Lib.toList_data]
   cases l <;> simp
 generalize ByteArray.mk l.toArray = S at *
 generalize hn : l.length = n at *
 have HN := hid hn
 clear hn
 go_enter Tryz.func91, Tryz.ntmps91
 go_wp2
 go_loopw [6] (fun iv wr => ∃ k : Nat, k ≤ n ∧ iv = .int .i64 (k : Int) ∧ Hid (∀ j, j < k → bareN (l.getD j 0).toNat = true) ∧ wr = w) (fun iv _ => n - (intOf iv).toNat)
 case atStart => exact ⟨0, by omega, rfl, fun j hj => by omega, rfl⟩
 case round =>
   obtain ⟨k, hk, rfl, hall, rfl⟩ := hrel
   by_cases hlt : k < n
   · have ix := IX.out k hlt
     have hlt' : (k : Int) < (n : Int) := by omega
     generalize hb : l.getD k 0 = b at ix
     have HB := hid hb
     clear hb
     cases hx : bareN b.toNat with
     | true =>
       go_wp2_with (go_at_call 67; refine (isBare_any b _).mono ?_; rintro e w1 ⟨rfl, rfl⟩; rw [hx])
       go_roundw
       case rel => exact ⟨k + 1, by omega, by go_num, fun j hj => by
           by_cases hjk : j < k
           · exact hall.out j hjk
           · have : j = k := by omega
             subst this
             rw [HB.out]; exact hx, trivial⟩
       case measure => simp [intOf]; omega
     | false =>
       have fin : Hid (isBareW l = false) := isBareW_no (k := k) (by rw [HN.out]; exact hlt) (by rw [HB.out]; exact hx)
       go_wp2_with (go_at_call 67; refine (isBare_any b _).mono ?_; rintro e w1 ⟨rfl, rfl⟩; rw [hx])
       go_ret
       exact ⟨by rw [fin.out]; rfl, rfl⟩
   · have fin : Hid (isBareW l = decide (l ≠ [])) := isBareW_of (fun j hj => hall.out j (by have := HN.out; omega))
     have hlt' : ¬ (k : Int) < (n : Int) := by omega
     go_wp2
     go_ret
     exact ⟨by rw [fin.out, ← EM.out]; rfl, rfl⟩
theorem risBare_any {l : List UInt8} {w : World} (hl : l.length ≤ 140737488355328) : Calls Tryz.prog 77 #[.string ⟨l.toArray⟩] w fun e w' => e = .returned (.bool (isBareW l)) ∧ w' = w := by
 have hz : (⟨l.toArray⟩ : ByteArray).size = l.length := by simp [ByteArray.size]
 have IX : Hid (∀ k, k < l.length → ∀ W, (Instr.index 9 (.string ⟨l.toArray⟩) (.int .i64 (k : Int))).run Tryz.prog W = .ok (.int .u8 ((l.getD k 0).toNat : Int)) W) := fun k hk W => idx_at hk W
 have EM : Hid (decide (0 < l.length) = decide (l ≠ [])) := hid <| by
   cases l <;> simp
 generalize ByteArray.mk l.toArray = S at *
 generalize hn : l.length = n at *
 have HN := hid hn
 clear hn
 go_enter Tryz.func77, Tryz.ntmps77
 go_wp2
 go_loopw [3] (fun iv wr => ∃ k : Nat, k ≤ n ∧ iv = .int .i64 (k : Int) ∧ Hid (∀ j, j < k → bareN (l.getD j 0).toNat = true) ∧ wr = w) (fun iv _ => n - (intOf iv).toNat)
 case atStart => exact ⟨0, by omega, rfl, fun j hj => by omega, rfl⟩
 case round =>
   obtain ⟨k, hk, rfl, hall, rfl⟩ := hrel
   by_cases hlt : k < n
   · have ix := IX.out k hlt
     have hlt' : (k : Int) < (n : Int) := by omega
     generalize hb : l.getD k 0 = b at ix
     have HB := hid hb
     clear hb
     cases hx : bareN b.toNat with
     | true =>
       go_wp2_with (go_at_call 41; refine (rbare_any b _).mono ?_; rintro e w1 ⟨rfl, rfl⟩; rw [hx])
       go_roundw
       case rel => exact ⟨k + 1, by omega, by go_num, fun j hj => by
           by_cases hjk : j < k
           · exact hall.out j hjk
           · have : j = k := by omega
             subst this
             rw [HB.out]; exact hx, trivial⟩
       case measure => simp [intOf]; omega
     | false =>
       have fin : Hid (isBareW l = false) := isBareW_no (k := k) (by rw [HN.out]; exact hlt) (by rw [HB.out]; exact hx)
       go_wp2_with (go_at_call 41; refine (rbare_any b _).mono ?_; rintro e w1 ⟨rfl, rfl⟩; rw [hx])
       go_ret
       exact ⟨by rw [fin.out]; rfl, rfl⟩
   · have fin : Hid (isBareW l = decide (l ≠ [])) := isBareW_of (fun j hj => hall.out j (by have := HN.out; omega))
     have hlt' : ¬ (k : Int) < (n : Int) := by omega
     go_wp2
     go_ret
     exact ⟨by rw [fin.out, ← EM.out]; rfl, rfl⟩
end Go.Proofs.YtfeppannfcbakaaGreatDoor

namespace Go.Proofs.YtfeppannfcbakaaGreatDoor
def hexD (n : Nat) : UInt8 := if n < 10 then UInt8.ofNat (48 + n) else UInt8.ofNat (87 + n)
theorem hexD_nat {n : Nat} (h : n < 16) : (hexD n).toNat = if n < 10 then 48 + n else 87 + n := by
 unfold hexD
 split <;> simp <;> omega
theorem hexN_hexD {n : Nat} (h : n < 16) : hexN (hexD n).toNat = some n := by
 have hh : ∀ a : Fin 16, hexN (hexD a.val).toNat = some a.val := by decide
 exact hh ⟨n, h⟩
theorem hexD_hexN {b : UInt8} {d : Nat} (h : hexN b.toNat = some d) : hexD d = b := by
 apply UInt8.toNat_inj.1
 have hd := hexN_lt h
 rw [hexD_nat hd]
 unfold hexN at h
 split at h
 · simp only [Option.some.injEq] at h; subst h; rw [if_pos (by omega)]; omega
 · split at h
   · simp only [Option.some.injEq] at h; subst h; rw [if_neg (by omega)]; omega
   · simp at h
def escB (b : UInt8) : List UInt8 := if prnN b.toNat = true then (if b.toNat = 34 ∨ b.toNat = 92 then [92, b] else [b]) else [92, 120, hexD (b.toNat / 16), hexD (b.toNat % 16)]
def escW (x : List UInt8) : List UInt8 := x.flatMap escB
theorem escW_snoc (x : List UInt8) (b : UInt8) : escW (x ++ [b]) = escW x ++ escB b := by simp [escW]
def wrtW (x : List UInt8) : List UInt8 := if isBareW x = true then x else 34 :: (escW x ++ [34])
def tailW (ws : Ws) : List UInt8 := ws.flatMap fun x => 32 :: wrtW x
def joinW : Ws → List UInt8
 | [] => []
 | x :: r => wrtW x ++ tailW r
def preW (ws : Ws) : List UInt8 := if ws = [] then [] else joinW ws ++ [32]
theorem joinW_snoc (ws : Ws) (x : List UInt8) : joinW (ws ++ [x]) = preW ws ++ wrtW x := by
 cases ws with
 | nil => simp [joinW, preW, tailW]
 | cons a r => simp [joinW, preW, tailW]
theorem runW_cons {s s' : St} {ws ws' : Ws} {k : Nat} {b : UInt8} {t : List UInt8} (h : stepW s ws k b = .go s' ws') : runW s ws k (b :: t) = runW s' ws' (k + 1) t := by rw [runW, h]
theorem run_bare : ∀ (r a t : List UInt8) (ws : Ws) (k : Nat), (∀ b ∈ r, bareN b.toNat = true) → runW (.bare a) ws k (r ++ t) = runW (.bare (a ++ r)) ws (k + r.length) t
 | [], a, t, ws, k, h => by simp
 | b :: r, a, t, ws, k, h => by
   rw [List.cons_append, runW_cons (s' := .bare (a ++ [b])) (ws' := ws) (by simp only [stepW]; rw [if_pos (h b (by simp))]), run_bare r _ _ _ _ (fun c hc => h c (by simp [hc]))]
   simp only [List.append_assoc, List.singleton_append, List.length_cons]
   congr 1
   omega
theorem n_of (n : Nat) (h : n < 256) : (UInt8.ofNat n).toNat = n := by simp; omega
theorem run_byte (b : UInt8) (o : Nat) (a t : List UInt8) (ws : Ws) (k : Nat) : runW (.quote o a) ws k (escB b ++ t) = runW (.quote o (a ++ [b])) ws (k + (escB b).length) t := by
 unfold escB
 by_cases hp : prnN b.toNat = true
 · rw [if_pos hp]
   by_cases hq : b.toNat = 34 ∨ b.toNat = 92
   · rw [if_pos hq, List.cons_append, runW_cons (s' := .esc o a k) (ws' := ws) (by simp [stepW]), List.cons_append, runW_cons (s' := .quote o (a ++ [b])) (ws' := ws) (by simp only [stepW]; rw [if_neg (by omega), if_pos hq])]
     rfl
   · rw [if_neg hq, List.cons_append, runW_cons (s' := .quote o (a ++ [b])) (ws' := ws) (by simp only [stepW]; rw [if_neg (by omega), if_neg (by omega), if_pos hp])]
     rfl
 · rw [if_neg hp, List.cons_append, runW_cons (s' := .esc o a k) (ws' := ws) (by simp [stepW]), List.cons_append, runW_cons (s' := .high o a k) (ws' := ws) (by simp [stepW])]
   have hb := b.toNat_lt
   rw [List.cons_append, runW_cons (s' := .low o a k (b.toNat / 16)) (ws' := ws) (by simp only [stepW]; rw [hexN_hexD (by omega)]), List.cons_append]
   have e : 16 * (b.toNat / 16) + b.toNat % 16 = b.toNat := by omega
   rw [runW_cons (s' := .quote o (a ++ [b])) (ws' := ws) (by
     simp only [stepW]
     rw [hexN_hexD (by omega)]
     simp only
     rw [e, if_neg hp]
     simp)]
   rfl
theorem run_esc : ∀ (x a t : List UInt8) (o : Nat) (ws : Ws) (k : Nat), runW (.quote o a) ws k (escW x ++ t) = runW (.quote o (a ++ x)) ws (k + (escW x).length) t
 | [], a, t, o, ws, k => by simp [escW]
 | b :: x, a, t, o, ws, k => by
   have e : escW (b :: x) = escB b ++ escW x := by simp [escW]
   rw [e, List.append_assoc, run_byte, run_esc x]
   simp only [List.append_assoc, List.singleton_append, List.length_append]
   congr 1
   omega
theorem bareW_all {x : List UInt8} (h : isBareW x = true) : x ≠ [] ∧ ∀ b ∈ x, bareN b.toNat = true := of_decide_eq_true h
theorem bare_no {b : UInt8} (h : bareN b.toNat = true) : b.toNat ≠ 32 ∧ b.toNat ≠ 34 ∧ b.toNat ≠ 92 := by
 refine ⟨fun e => ?_, fun e => ?_, fun e => ?_⟩ <;> (rw [e] at h; simp [bareN] at h)
theorem run_word (x : List UInt8) (t : List UInt8) (ws : Ws) (k : Nat) (h : t = [] ∨ ∃ t', t = 32 :: t') :
   runW .ahead ws k (wrtW x ++ t) = runW .closed (ws ++ [x]) (k + (wrtW x).length) t := by
 unfold wrtW
 cases hx : isBareW x with
 | true =>
   rw [if_pos rfl]
   obtain ⟨hne, hall⟩ := bareW_all hx
   cases x with
   | nil => exact absurd rfl hne
   | cons b r =>
     have hb := hall b (by simp)
     obtain ⟨n1, n2, n3⟩ := bare_no hb
     rw [List.cons_append, runW_cons (s' := .bare [b]) (ws' := ws) (by simp only [stepW]; rw [if_neg n1, if_neg n2, if_pos hb]), run_bare r _ _ _ _ (fun c hc => hall c (by simp [hc]))]
     have e : k + 1 + r.length = k + (b :: r).length := by simp; omega
     rw [e, List.singleton_append]
     rcases h with rfl | ⟨t', rfl⟩
     · rfl
     · rw [runW_cons (s' := .ahead) (ws' := ws ++ [b :: r]) (by simp [stepW, bareN]), runW_cons (s' := .ahead) (ws' := ws ++ [b :: r]) (by simp [stepW])]
 | false =>
   rw [if_neg (by simp), List.cons_append, runW_cons (s' := .quote k []) (ws' := ws) (by simp [stepW]), List.append_assoc, run_esc, List.nil_append, List.singleton_append, runW_cons (s' := .closed) (ws' := ws ++ [x]) (by simp [stepW, hx])]
   congr 1
   simp
   omega
theorem run_tail : ∀ (r : Ws) (ws : Ws) (k : Nat), runW .closed ws k (tailW r) = .ok (ws ++ r)
 | [], ws, k => by simp [tailW, runW, finW]
 | x :: r, ws, k => by
   have e : tailW (x :: r) = 32 :: (wrtW x ++ tailW r) := by simp [tailW]
   rw [e, runW_cons (s' := .ahead) (ws' := ws) (by simp [stepW]), run_word, run_tail r]
   · simp
   · cases r with
     | nil => exact Or.inl rfl
     | cons y r => exact Or.inr ⟨_, by simp [tailW]; rfl⟩
theorem run_join (ws : Ws) : runW .ahead [] 0 (joinW ws) = .ok ws := by
 cases ws with
 | nil => rfl
 | cons x r =>
   rw [joinW, run_word, run_tail]
   · simp
   · cases r with
     | nil => exact Or.inl rfl
     | cons y r => exact Or.inr ⟨_, by simp [tailW]; rfl⟩
end Go.Proofs.YtfeppannfcbakaaGreatDoor

/- strings.Builder at this program: which number is which. -/
namespace Go.Proofs
open Go.Shelf
def Tryz.lays169_ren : Go.Shelf.Ren := ⟨fun | 169 => 58 | n => n, fun | 70 => 104 | 9 => 9 | 0 => 0 | 72 => 106 | 37 => 32 | 127 => 149 | 3 => 3 | 5 => 5 | n => n, fun | n => n⟩
theorem Tryz.lays169 : Go.Proofs.Lays.n169 Tryz.prog Tryz.lays169_ren := {
  mixed := by kernel_rfl
  f169 := Tryz.func58.trans (congrArg some (by kernel_rfl))
  t0 := Tryz.underlying0
  a0 := Tryz.isAgg0
  z0 := Tryz.sizeOf0
  v0 := Tryz.zeroValue0
  t3 := Tryz.underlying3
  a3 := Tryz.isAgg3
  z3 := Tryz.sizeOf3
  v3 := Tryz.zeroValue3
  t9 := Tryz.underlying9
  a9 := Tryz.isAgg9
  z9 := Tryz.sizeOf9
  v9 := Tryz.zeroValue9
  t37 := Tryz.underlying32
  a37 := Tryz.isAgg32
  z37 := Tryz.sizeOf32
  v37 := Tryz.zeroValue32
  t70 := Tryz.underlying104
  a70 := Tryz.isAgg104
  z70 := Tryz.sizeOf104
  v70 := Tryz.zeroValue104
  t72 := Tryz.underlying106
  a72 := Tryz.isAgg106
  z72 := Tryz.sizeOf106
  v72 := Tryz.zeroValue106
  t127 := Tryz.underlying149
  a127 := Tryz.isAgg149
  z127 := Tryz.sizeOf149
  v127 := Tryz.zeroValue149 }
end Go.Proofs

namespace Go.Proofs.YtfeppannfcbakaaGreatDoor
open Go.RowKit
set_option linter.unusedVariables false
set_option maxRecDepth 1000000
set_option maxHeartbeats 1000000
abbrev Bd (B : Nat) (l : List UInt8) (w : World) : Prop := Lib.IsBuilder 106 5 B B (cellsB l) w
theorem bd_lt {B : Nat} {p : Value} {l : List Value} {w : World} (h : Lib.BuilderAt 106 5 B B p l w) : B < w.heap.size := World.block_lt_of_cell? w _ h.cell0
theorem Bd.lt {B : Nat} {l : List UInt8} {w : World} (h : Bd B l w) : B < w.heap.size := h.elim bd_lt bd_lt
theorem Tryz.size45 : (Tryz.prog.info? 106).map (·.size) = some 2 := by kernel_rfl
theorem Tryz.lies45 : liesAt Tryz.prog Tryz.prog.depth 106 (2 / Tryz.prog.cellsOf 106) 0 106 1 = true := by kernel_rfl
theorem bcheck_any {B : Nat} {l : List UInt8} {w : World} (h : Bd B l w) :
   Calls Tryz.prog 90 #[ptr B] w fun e w' => e = .returned (.tuple #[]) ∧ Lib.BuilderAt 106 5 B B (ptr B) (cellsB l) w' ∧ Below B w w' := by
 obtain ⟨j, hj, hjs⟩ := Option.map_eq_some_iff.1 Tryz.size45
 rcases h with h | h
 · have s0 := h.cell0
   have hsh := h.shape
   have f0 := h.frozen0
   have U := hid (h.used (ptr B))
   have hB := hid h.1
   clear h
   go_enter Tryz.func90, Tryz.ntmps90
   go_wp2
   rw [Lib.run_to_unsafe w ⟨B, 0, none⟩ Tryz.underlying104 Tryz.underlying176 hj (by rw [hjs]; decide) hsh (Nat.zero_lt_succ 1)]
   simp only [Result.andThen]
   rw [Oper.upon_value]
   go_wp2
   rw [run_callFunc_extern Tryz.func122 (by kernel_rfl) (by kernel_rfl) (by kernel_rfl) (e := Extern.AbiNoEscape.same) (by kernel_rfl), Lib.run_noEscape]
   simp only [Result.andThen]
   rw [Oper.upon_value]
   go_wp2
   rw [Lib.run_from_unsafe w ⟨B, 0, none⟩ Tryz.underlying176 Tryz.underlying104 hj hsh Tryz.lies45]
   simp only [Result.andThen]
   rw [Oper.upon_value]
   go_wp2
   go_end0
   exact ⟨rfl, U.out, (Below.refl B w).setCell (p := ⟨B, 0, none⟩) hB.out _⟩
 · have s0 := h.cell0
   have U := hid h
   clear h
   go_enter Tryz.func90, Tryz.ntmps90
   go_wp2
   rw [Lib.run_neq_ptr_same w _ Tryz.underlying104 hj]
   go_wp2
   go_end0
   exact ⟨rfl, U.out, Below.refl B _⟩
theorem bd_open {B : Nat} {l : List UInt8} {w : World} (h : Lib.BuilderAt 106 5 B B (ptr B) (cellsB l) w) : ∃ ao c, w.heap[B]? = some (.cells #[ptr B, .slice ao l.length c] 106 (0, 0)) ∧ w.ownsRow B 5 1 (.slice ao l.length c) (cellsB l).length (cellsB l) ∧ (Value.slice ao l.length c).ownBlock ≠ some B := by
 obtain ⟨hB, v, hbk, hown, hne⟩ := h
 obtain ⟨ao, c, rfl⟩ := owns_form hown
 rw [cellsB_length] at *
 exact ⟨ao, c, hbk, hown, hne⟩
theorem bd_put {B : Nat} {l m : List UInt8} {w W w2 : World} {v v' : Value} (hB0 : Below B w W) (hlt : B < w.heap.size) (hbk : W.heap[B]? = some (.cells #[ptr B, v] 106 (0, 0))) (hown0 : W.ownsRow B 5 1 v (cellsB l).length (cellsB l)) (hne : v.ownBlock ≠ some B) (hown : w2.ownsRow B 5 1 v' (cellsB m).length (cellsB m)) (hg : W.grownBy w2 v.ownBlock) :
   (w2.heap[B]? = some (.cells #[ptr B, v] 106 (0, 0))) ∧ Bd B m (w2.setCell ⟨B, 1, none⟩ v') ∧ Below B w (w2.setCell ⟨B, 1, none⟩ v') := by
 have hsz := hB0.size
 have hb2 : w2.heap[B]? = some (.cells #[ptr B, v] 106 (0, 0)) := by
   rw [hg.block B (by omega) (fun e => hne e.symm)]
   exact hbk
 refine ⟨hb2, Or.inr ?_, ?_⟩
 · exact Lib.BuilderAt.put (T := 106) (e := 5) (Nat.le_refl _) hb2 (bs' := cellsB m) hown (by decide)
 · exact (hB0.grown hg (by omega) (fun k hk => (hown0.lt k hk).1)).setCell (p := ⟨B, 1, none⟩) (Nat.le_refl _) _
theorem WriteByte_any {B : Nat} {l : List UInt8} {b : UInt8} {w : World} (h : Bd B l w) (hl : l.length + 1 ≤ 140737488355328) :
   Calls Tryz.prog 56 #[ptr B, .int .u8 (b.toNat : Int)] w fun e w' => e = .returned .nilIface ∧ Bd B (l ++ [b]) w' ∧ Below B w w' := by
 obtain ⟨i1, hi1, hz0, hz1, hz2⟩ := info_parts Tryz.info5
 have C := hid (bcheck_any h)
 have hBw := h.lt
 have key : Hid (∀ w1, Lib.BuilderAt 106 5 B B (ptr B) (cellsB l) w1 → Below B w w1 → ∃ ao c ao' c' w2, w1.cell? ⟨B, 1, none⟩ = some (.slice ao l.length c) ∧ (Builtin.append_ #[32, 32] 32 #[.slice ao l.length c, .slice (some ⟨w1.heap.size, 0, none⟩) 1 1]).run Tryz.prog (w1.alloc (.cells #[.int .u8 (b.toNat : Int)] 5)) = .ok (.slice ao' (l.length + 1) c') w2 ∧ w2.cell? ⟨B, 1, none⟩ = some (.slice ao l.length c) ∧ w2.frozen? ⟨B, 1, none⟩ = false ∧ Bd B (l ++ [b]) (w2.setCell ⟨B, 1, none⟩ (.slice ao' (l.length + 1) c')) ∧ Below B w (w2.setCell ⟨B, 1, none⟩ (.slice ao' (l.length + 1) c'))) := hid (by
   intro w1 h1 hb1
   have hlt := bd_lt h1
   obtain ⟨ao, c, hbk, hown, hne⟩ := bd_open h1
   have hown1 := hown.alloc (.cells #[.int .u8 (b.toNat : Int)] 5)
   obtain ⟨v', w2, hr, h2, h3, h4⟩ := run_append_own (P := Tryz.prog) (w1.alloc (.cells #[.int .u8 (b.toNat : Int)] 5)) B 32 32 5 i1 (.int .u8 0) 1 1 Tryz.underlying32 hi1 hz0 hz1 hz2 rfl (by decide) _ _ _ hown1 ⟨w1.heap.size, 0, none⟩ 1 1 [.int .u8 (b.toNat : Int)] (by simp) (one_new (by rw [cell_at (heap_alloc_new w1 _)]; rfl)) (one_cell rfl) (by rw [cellsB_length]; unfold maxLen; omega) (by rw [cellsB_length]; omega) (by simp; omega)
   obtain ⟨ao', c', rfl⟩ := owns_form h2
   rw [cellsB_length] at hr
   have hb0 : (w1.alloc (.cells #[.int .u8 (b.toNat : Int)] 5)).heap[B]? = some (.cells #[ptr B, .slice ao l.length c] 106 (0, 0)) := by rw [Lib.alloc_old w1 _ B hlt]; exact hbk
   obtain ⟨k1, k2, k3⟩ := bd_put (m := l ++ [b]) (hb1.alloc (by omega) _) hBw hb0 hown1 hne (by rw [cellsB_append, List.length_append]; exact h2) h3
   rw [cellsB_length] at k2 k3
   exact ⟨ao, c, ao', c', w2, by rw [Lib.cell_of_heap hbk]; rfl, hr, by rw [Lib.cell_of_heap k1]; rfl, Lib.frozen_of_heap k1 1, k2, k3⟩)
 generalize hn : l.length = n at *
 clear hn h
 generalize (b.toNat : Int) = bi at *
 go_enter Tryz.func56, Tryz.ntmps56
 go_wp2_with (first | (go_at_call 90; refine C.out.mono ?_; rintro e w1 ⟨rfl, h1, hb1⟩; have hk := key.out w1 h1 hb1; obtain ⟨ao, c, ao', c', w2, s1, hr, t1, f1, A2, B2⟩ := hk; have R := hid hr; have A3 := hid A2; have B3 := hid B2; clear hr A2 B2 h1 hb1) | (at_builtin; refine wpList_append_run rfl _ _ 32 rfl _ _ _ _ rfl rfl R.out ?_))
 go_ret
 exact ⟨rfl, A3.out, B3.out⟩
theorem wpList_append_run2 {P : Program} {w : World} {ops : Array Oper} {rest : List Oper} {o : Oper} {a : Act} {Q : Exit → Act → World → Prop} (hgd : o.guard = none) (s x : Operand) (t u : TypeId)
   (ho : o.op = .call { callee := .builtin .append, args := #[s, x], argTypes := #[t, u] }) (v1 v2 v' : Value) (w' : World) (hs : a.eval s = v1) (hx : a.eval x = v2)
   (hr : (Builtin.append_ #[t, u] o.type #[v1, v2]).run P w = .ok v' w') (h : wpList P ops Q rest (a.put o.dst v') w') : wpList P ops Q (o :: rest) a w := by
 refine wpList_plain hgd fun K hK => ?_
 unfold Oper.wp execOp
 simp only [ho, resolve, invoke, builtin, Sem.run_bind, Sem.run_pure, Result.andThen_ok, List.map_toArray, List.map_cons, List.map_nil, hs, hx, hr]
 exact hK _ _ h
theorem strCells_eq (x : List UInt8) : Lib.strCells ⟨x.toArray⟩ = cellsB x := by
 simp [Lib.strCells, cellsB]
theorem WriteString_any {B : Nat} {l x : List UInt8} {w : World} (h : Bd B l w) (hl : l.length + x.length ≤ 140737488355328) :
   Calls Tryz.prog 92 #[ptr B, .string ⟨x.toArray⟩] w fun e w' => e = .returned (.tuple #[.int .i64 (x.length : Int), .nilIface]) ∧ Bd B (l ++ x) w' ∧ Below B w w' := by
 obtain ⟨i1, hi1, hz0, hz1, hz2⟩ := info_parts Tryz.info5
 have C := hid (bcheck_any h)
 have hBw := h.lt
 have hz : (⟨x.toArray⟩ : ByteArray).size = x.length := by simp [ByteArray.size]
 have key : Hid (∀ w1, Lib.BuilderAt 106 5 B B (ptr B) (cellsB l) w1 → Below B w w1 → ∃ ao c ao' c' w2, w1.cell? ⟨B, 1, none⟩ = some (.slice ao l.length c) ∧ (Builtin.append_ #[32, 9] 32 #[.slice ao l.length c, .string ⟨x.toArray⟩]).run Tryz.prog w1 = .ok (.slice ao' (l.length + x.length) c') w2 ∧ w2.cell? ⟨B, 1, none⟩ = some (.slice ao l.length c) ∧ w2.frozen? ⟨B, 1, none⟩ = false ∧ Bd B (l ++ x) (w2.setCell ⟨B, 1, none⟩ (.slice ao' (l.length + x.length) c')) ∧ Below B w (w2.setCell ⟨B, 1, none⟩ (.slice ao' (l.length + x.length) c'))) := hid (by
   intro w1 h1 hb1
   have hlt := bd_lt h1
   obtain ⟨ao, c, hbk, hown, hne⟩ := bd_open h1
   obtain ⟨v', w2, hr, h2, h3, h4⟩ := Lib.run_append_own_string (P := Tryz.prog) w1 B 32 9 32 5 i1 Tryz.underlying32 Tryz.underlying9 hi1 hz0 hz1 hz2 _ _ _ hown ⟨x.toArray⟩ (by rw [cellsB_length, hz]; unfold maxLen; omega) (by rw [cellsB_length, hz]; omega) (by omega)
   obtain ⟨ao', c', rfl⟩ := owns_form h2
   rw [cellsB_length, hz] at hr
   obtain ⟨k1, k2, k3⟩ := bd_put (m := l ++ x) hb1 hBw hbk hown hne (by rw [cellsB_append, List.length_append, cellsB_length x, ← hz, ← strCells_eq]; exact h2) h3
   rw [cellsB_length, hz] at k2 k3
   exact ⟨ao, c, ao', c', w2, by rw [Lib.cell_of_heap hbk]; rfl, hr, by rw [Lib.cell_of_heap k1]; rfl, Lib.frozen_of_heap k1 1, k2, k3⟩)
 generalize hn : l.length = n at *
 clear hn h
 generalize ByteArray.mk x.toArray = X at *
 generalize hm : x.length = m at *
 clear hm
 go_enter Tryz.func92, Tryz.ntmps92
 go_wp2_with (first | (go_at_call 90; refine C.out.mono ?_; rintro e w1 ⟨rfl, h1, hb1⟩; have hk := key.out w1 h1 hb1; obtain ⟨ao, c, ao', c', w2, s1, hr, t1, f1, A2, B2⟩ := hk; have R := hid hr; have A3 := hid A2; have B3 := hid B2; clear hr A2 B2 h1 hb1) | (at_builtin; refine wpList_append_run2 rfl _ _ 32 9 rfl _ _ _ _ rfl rfl R.out ?_))
 go_ret2
 exact ⟨rfl, A3.out, B3.out⟩
end Go.Proofs.YtfeppannfcbakaaGreatDoor

namespace Go.Proofs.YtfeppannfcbakaaGreatDoor
open Go.RowKit
set_option linter.unusedVariables false
set_option maxRecDepth 1000000
set_option maxHeartbeats 1000000
theorem Tryz.extra169 : Builder.Extra Tryz.prog Tryz.lays169_ren := {
 sizeBuilder := by kernel_rfl
 liesBuilder := by kernel_rfl
 t5 := Tryz.underlying5
 a5 := Tryz.isAgg5
 z5 := Tryz.sizeOf5
 v5 := Tryz.zeroValue5
 infoByte := by kernel_rfl
 cellsByte := by kernel_rfl
 sizeByte := by kernel_rfl
 neB5 := by decide }
theorem byteCells_eq (l : List UInt8) : Lib.byteCells l = cellsB l := by simp [Lib.byteCells, cellsB]
theorem String_any {B : Nat} {l : List UInt8} {w : World} (h : Bd B l w) : Calls Tryz.prog 58 #[ptr B] w fun e w' => e = .returned (.string ⟨l.toArray⟩) ∧ Below B w w' := by
 have hB := h.lt
 have := Any.Builder_String_any_k Tryz.lays169 Tryz.extra169 B B l w (by rw [byteCells_eq]; exact Lib.IsBuilderF.of h) (by omega)
 refine Calls.mono this ?_
 rintro e w' ⟨h1, _, h2, _⟩
 exact ⟨h1, h2⟩
theorem idx_hex {n : Nat} (h : n < 16) (W : World) : (Instr.index 9 (.string ⟨#[48, 49, 50, 51, 52, 53, 54, 55, 56, 57, 97, 98, 99, 100, 101, 102]⟩) (.int .u8 (n : Int))).run Tryz.prog W = .ok (.int .u8 ((hexD n).toNat : Int)) W := by
 have hs : (⟨#[48, 49, 50, 51, 52, 53, 54, 55, 56, 57, 97, 98, 99, 100, 101, 102]⟩ : ByteArray).size = 16 := rfl
 rw [run_index_string W 9 _ _ _ Tryz.underlying9, dif_pos ⟨by omega, by rw [hs]; omega⟩]
 congr 3
 have hh : ∀ a : Fin 16, ((⟨#[48, 49, 50, 51, 52, 53, 54, 55, 56, 57, 97, 98, 99, 100, 101, 102]⟩ : ByteArray)[a.val]'(show a.val < 16 from a.isLt)).toNat = (hexD a.val).toNat := by decide +kernel
 have := hh ⟨n, h⟩
 simpa using this
theorem shr4 (n : Nat) (h : n < 256) : ((n : Int) / 16) = ((n / 16 : Nat) : Int) := by omega
theorem and15 (n : Nat) (h : n < 256) : bits BinOp.and IntKind.u8 (n : Int) 15 = ((n % 16 : Nat) : Int) := by
 have hh : ∀ a : Fin 256, bits BinOp.and IntKind.u8 (a.val : Int) 15 = ((a.val % 16 : Nat) : Int) := by decide +kernel
 exact hh ⟨n, h⟩
theorem writeQuoted_any {B : Nat} {l : List UInt8} {b : UInt8} {w : World} (h : Bd B l w) (hl : l.length + 4 ≤ 140737488355328) :
   Calls Tryz.prog 93 #[ptr B, .int .u8 (b.toNat : Int)] w fun e w' => e = .returned (.tuple #[]) ∧ Bd B (l ++ escB b) w' ∧ Below B w w' := by
 have P := hid (prn_any b w)
 have hb := b.toNat_lt
 cases hp : prnN b.toNat with
 | false =>
   have e1 : escB b = [92, 120, hexD (b.toNat / 16), hexD (b.toNat % 16)] := by unfold escB; rw [hp, if_neg (by simp)]
   rw [e1]
   have C1 := hid (WriteString_any (x := [92, 120]) h (by simp; omega))
   have i1 := idx_hex (n := b.toNat / 16) (by omega)
   have i2 := idx_hex (n := b.toNat % 16) (by omega)
   have a15 := and15 b.toNat (by omega)
   have s4 := shr4 b.toNat (by omega)
   clear e1 h
   generalize b.toNat / 16 = n1 at *
   generalize b.toNat % 16 = n2 at *
   generalize hexD n1 = d1 at *
   generalize hexD n2 = d2 at *
   generalize (b.toNat : Int) = bi at *
   go_enter Tryz.func93, Tryz.ntmps93
   go_wp2_with (first | (go_at_call 123; refine P.out.mono ?_; rintro e w1 ⟨rfl, rfl⟩; rw [hp]) | (go_at_call 92; refine C1.out.mono ?_; rintro e w1 ⟨rfl, A1, B1⟩; have C2 := hid (WriteByte_any (b := d1) A1 (by simp; omega)); have BB1 := hid B1; clear A1 B1; refine Hid.out ?_))
   refine hid ?_
   go_wp2_with (go_at_call 56; refine C2.out.mono ?_; rintro e w2 ⟨rfl, A2, B2⟩; have C3 := hid (WriteByte_any (b := d2) A2 (by simp; omega)); have BB2 := hid (BB1.out.trans B2); clear A2 B2; refine Hid.out ?_)
   refine hid ?_
   go_wp2_with (go_at_call 56; refine C3.out.mono ?_; rintro e w3 ⟨rfl, A3, B3⟩; have AA3 := hid A3; have BB3 := hid (BB2.out.trans B3); clear A3 B3)
   refine bodyPost_ret (results_none rfl _ _ _) rfl ?_
   exact ⟨rfl, by simpa using AA3.out, BB3.out⟩
 | true =>
   by_cases hq : b.toNat = 34 ∨ b.toNat = 92
   · have e1 : escB b = [92, b] := by unfold escB; rw [hp, if_pos rfl, if_pos hq]
     rw [e1]
     have C1 := hid (WriteByte_any (b := 92) h (by omega))
     have c92 : ((92 : UInt8).toNat : Int) = 92 := by decide
     rw [c92] at C1
     have NB : Hid (∀ w1, Bd B (l ++ [92]) w1 → Calls Tryz.prog 56 #[ptr B, .int .u8 (b.toNat : Int)] w1 fun e w' => e = .returned .nilIface ∧ Bd B (l ++ [92] ++ [b]) w' ∧ Below B w1 w') := hid (fun w1 h1 => WriteByte_any (b := b) h1 (by simp; omega))
     clear e1 h c92
     by_cases h34 : b.toNat = 34
     · have bi : (b.toNat : Int) = 34 := by omega
       rw [bi] at P NB ⊢
       clear bi h34 hq
       go_enter Tryz.func93, Tryz.ntmps93
       go_wp2_with (first | (go_at_call 123; refine P.out.mono ?_; rintro e w1 ⟨rfl, rfl⟩; rw [hp]) | (go_at_call 56; refine C1.out.mono ?_; rintro e w1 ⟨rfl, A1, B1⟩; have C2 := hid (NB.out w1 A1); have BB1 := hid B1; clear A1 B1; refine Hid.out ?_))
       refine hid ?_
       go_wp2_with (go_at_call 56; refine C2.out.mono ?_; rintro e w2 ⟨rfl, A2, B2⟩; have AA2 := hid A2; have BB2 := hid (BB1.out.trans B2); clear A2 B2)
       go_end0
       exact ⟨rfl, by simpa using AA2.out, BB2.out⟩
     · have bi : (b.toNat : Int) = 92 := by omega
       rw [bi] at P NB ⊢
       clear bi h34 hq
       go_enter Tryz.func93, Tryz.ntmps93
       go_wp2_with (first | (go_at_call 123; refine P.out.mono ?_; rintro e w1 ⟨rfl, rfl⟩; rw [hp]) | (go_at_call 56; refine C1.out.mono ?_; rintro e w1 ⟨rfl, A1, B1⟩; have C2 := hid (NB.out w1 A1); have BB1 := hid B1; clear A1 B1; refine Hid.out ?_))
       refine hid ?_
       go_wp2_with (go_at_call 56; refine C2.out.mono ?_; rintro e w2 ⟨rfl, A2, B2⟩; have AA2 := hid A2; have BB2 := hid (BB1.out.trans B2); clear A2 B2)
       go_end0
       exact ⟨rfl, by simpa using AA2.out, BB2.out⟩
   · have e1 : escB b = [b] := by unfold escB; rw [hp, if_pos rfl, if_neg hq]
     rw [e1]
     have C1 := hid (WriteByte_any (b := b) h (by omega))
     have n34 : ((b.toNat : Int) == 34) = false := by simp; omega
     have n92 : ((b.toNat : Int) == 92) = false := by simp; omega
     clear e1 h hq hb
     generalize (b.toNat : Int) = bi at *
     go_enter Tryz.func93, Tryz.ntmps93
     go_wp2_with (first | (go_at_call 123; refine P.out.mono ?_; rintro e w1 ⟨rfl, rfl⟩; rw [hp]) | (go_at_call 56; refine C1.out.mono ?_; rintro e w1 ⟨rfl, A1, B1⟩; have AA1 := hid A1; have BB1 := hid B1; clear A1 B1))
     go_end0
     exact ⟨rfl, AA1.out, BB1.out⟩
set_option linter.unusedVariables false
set_option maxRecDepth 1000000
set_option maxHeartbeats 1600000
theorem escB_len (b : UInt8) : (escB b).length ≤ 4 ∧ 1 ≤ (escB b).length := by
 unfold escB
 split
 · split <;> simp
 · simp
theorem escW_take {x : List UInt8} {k : Nat} (hk : k < x.length) : escW (x.take (k + 1)) = escW (x.take k) ++ escB (x.getD k 0) := by
 rw [take_snocB hk, escW_snoc]
theorem escW_len (x : List UInt8) : (escW x).length ≤ 4 * x.length := by
 induction x with
 | nil => simp [escW]
 | cons b r ih =>
   have e : escW (b :: r) = escB b ++ escW r := by simp [escW]
   have := (escB_len b).1
   rw [e, List.length_append, List.length_cons]
   omega
theorem write_any {B : Nat} {l x : List UInt8} {w : World} (h : Bd B l w) (hl : l.length + 4 * x.length + 10 ≤ 140737488355328) :
   Calls Tryz.prog 57 #[ptr B, .string ⟨x.toArray⟩] w fun e w' => e = .returned (.tuple #[]) ∧ Bd B (l ++ wrtW x) w' ∧ Below B w w' := by
 have I := hid (isBareWord_any (l := x) (w := w) (by omega))
 have hz : (⟨x.toArray⟩ : ByteArray).size = x.length := by simp [ByteArray.size]
 cases hx : isBareW x with
 | true =>
   have e1 : wrtW x = x := by unfold wrtW; rw [hx, if_pos rfl]
   rw [e1]
   have C := hid (WriteString_any (x := x) h (by omega))
   clear e1 h
   generalize ByteArray.mk x.toArray = X at *
   go_enter Tryz.func57, Tryz.ntmps57
   go_wp2_with (first | (go_at_call 91; refine I.out.mono ?_; rintro e w1 ⟨rfl, rfl⟩; rw [hx]) | (go_at_call 92; refine C.out.mono ?_; rintro e w1 ⟨rfl, A1, B1⟩; have AA := hid A1; have BB := hid B1; clear A1 B1))
   refine bodyPost_ret (results_none rfl _ _ _) rfl ?_
   exact ⟨rfl, AA.out, BB.out⟩
 | false =>
   have e1 : wrtW x = 34 :: (escW x ++ [34]) := by unfold wrtW; rw [hx, if_neg (by simp)]
   rw [e1]
   have c34 : ((34 : UInt8).toNat : Int) = 34 := by decide
   have C := hid (WriteByte_any (b := 34) h (by omega))
   rw [c34] at C
   have IX : Hid (∀ k, k < x.length → ∀ W, (Instr.index 9 (.string ⟨x.toArray⟩) (.int .i64 (k : Int))).run Tryz.prog W = .ok (.int .u8 ((x.getD k 0).toNat : Int)) W) := fun k hk W => idx_at hk W
   have WQ : Hid (∀ k W, k < x.length → Bd B (l ++ [34] ++ escW (x.take k)) W → Calls Tryz.prog 93 #[ptr B, .int .u8 ((x.getD k 0).toNat : Int)] W fun e w' => e = .returned (.tuple #[]) ∧ Bd B (l ++ [34] ++ escW (x.take (k + 1))) w' ∧ Below B W w') := hid (fun k W hk hb => by
     have h1 := escW_len (x.take k)
     have h2 : (x.take k).length = k := by simp; omega
     have := writeQuoted_any (b := x.getD k 0) hb (by simp only [List.length_append, List.length_cons, List.length_nil]; omega)
     rw [escW_take hk, ← List.append_assoc]
     exact this)
   have WE : Hid (∀ W, Bd B (l ++ [34] ++ escW (x.take x.length)) W → Calls Tryz.prog 56 #[ptr B, .int .u8 34] W fun e w' => e = .returned .nilIface ∧ Bd B (l ++ (34 :: (escW x ++ [34]))) w' ∧ Below B W w') := hid (fun W hb => by
     have h1 := escW_len x
     rw [List.take_length] at hb
     have := WriteByte_any (b := 34) hb (by simp only [List.length_append, List.length_cons, List.length_nil]; omega)
     rw [c34] at this
     have e2 : l ++ (34 :: (escW x ++ [34])) = l ++ [34] ++ escW x ++ [34] := by simp
     rw [e2]
     exact this)
   have E0 : Hid (escW (x.take 0) = []) := hid (by simp [escW])
   clear e1 h c34
   generalize ByteArray.mk x.toArray = X at *
   generalize hn : x.length = n at *
   clear hn
   go_enter Tryz.func57, Tryz.ntmps57
   go_wp2_with (first | (go_at_call 91; refine I.out.mono ?_; rintro e w1 ⟨rfl, hw1⟩; subst w1; rw [hx]) | (go_at_call 56; refine C.out.mono ?_; rintro e w1 ⟨rfl, A1, B1⟩; have AA := hid A1; have BB := hid B1; clear A1 B1; refine Hid.out ?_))
   refine hid ?_
   go_wp2
   go_loopw [14] (fun iv wr => ∃ k : Nat, k ≤ n ∧ iv = .int .i64 (k : Int) ∧ Hid (Bd B (l ++ [34] ++ escW (x.take k)) wr) ∧ Hid (Below B w wr)) (fun iv _ => n - (intOf iv).toNat)
   case atStart => exact ⟨0, by omega, rfl, hid (by rw [E0.out, List.append_nil]; exact AA.out), BB⟩
   case round =>
     obtain ⟨k, hk, rfl, hA, hB⟩ := hrel
     by_cases hlt : k < n
     · have ix := IX.out k hlt
       have Q := hid (WQ.out k wr hlt hA.out)
       have hlt' : (k : Int) < (n : Int) := by omega
       generalize ((x.getD k 0).toNat : Int) = bi at *
       go_wp2_with (go_at_call 93; refine Q.out.mono ?_; rintro e w2 ⟨rfl, A2, B2⟩; have AA2 := hid A2; have BB2 := hid (hB.out.trans B2); clear A2 B2)
       go_roundw
       case rel => exact ⟨k + 1, by omega, by go_num, AA2, BB2⟩
       case measure => simp [intOf]; omega
     · have hlt' : ¬ (k : Int) < (n : Int) := by omega
       have ek : k = n := by omega
       have Q := hid (WE.out wr (by rw [← ek]; exact hA.out))
       clear ek
       go_wp2_with (go_at_call 56; refine Q.out.mono ?_; rintro e w2 ⟨rfl, A2, B2⟩; have AA2 := hid A2; have BB2 := hid (hB.out.trans B2); clear A2 B2)
       go_end0
       exact ⟨rfl, AA2.out, BB2.out⟩
theorem wrtW_len (x : List UInt8) : (wrtW x).length ≤ 4 * x.length + 2 := by
 unfold wrtW
 split
 · omega
 · have := escW_len x
   simp only [List.length_cons, List.length_append, List.length_nil]
   omega
def lenJ (ws : Ws) : Nat := (ws.map fun x => 4 * x.length + 16).sum
theorem take_snoc {ws : Ws} {k : Nat} (hk : k < ws.length) : ws.take (k + 1) = ws.take k ++ [ws.getD k []] := by
 rw [List.take_add_one, List.getElem?_eq_getElem hk]
 simp [List.getD, hk]
theorem lenJ_take {ws : Ws} {k : Nat} (hk : k < ws.length) : lenJ (ws.take (k + 1)) = lenJ (ws.take k) + (4 * (ws.getD k []).length + 16) := by
 rw [take_snoc hk]
 unfold lenJ
 rw [List.map_append, List.sum_append]
 simp
theorem lenJ_le : ∀ (ws : Ws) (k : Nat), lenJ (ws.take k) ≤ lenJ ws
 | [], k => by simp [lenJ]
 | x :: r, 0 => by simp [lenJ]
 | x :: r, k + 1 => by
   have := lenJ_le r k
   simp only [lenJ, List.take_succ_cons, List.map_cons, List.sum_cons] at this ⊢
   omega
theorem preW_len (ws : Ws) : (preW ws).length ≤ (joinW ws).length + 1 := by
 unfold preW
 split <;> simp
theorem joinW_len : ∀ (ws : Ws) (k : Nat), k ≤ ws.length → (joinW (ws.take k)).length ≤ lenJ (ws.take k)
 | ws, 0, h => by simp [joinW]
 | ws, k + 1, h => by
   have ih := joinW_len ws k (by omega)
   rw [lenJ_take (by omega), take_snoc (by omega), joinW_snoc, List.length_append]
   have h1 := preW_len (ws.take k)
   have h2 := wrtW_len (ws.getD k [])
   omega
theorem Join_any {s : Value} {ws : Ws} {w : World} (hs : Rt w s ws) (hn : ws.length ≤ 140737488355328) (hl : lenJ ws ≤ 100000000000000) :
   Calls Tryz.prog 29 #[s] w fun e w' => e = .returned (.string ⟨(joinW ws).toArray⟩) ∧ Below w.heap.size w w' := by
 obtain ⟨ao, c, rfl⟩ := hs.form
 have HS := hid hs
 have b0 : Hid (Bd w.heap.size (joinW (ws.take 0)) (w.alloc (.cells #[.pointer none, .slice none 0 0] 106))) := hid (Or.inl ⟨Nat.le_refl _, .slice none 0 0, heap_alloc_new w _, by simpa [joinW, cellsB] using World.ownsRow_nil _ _ 5 1, by simp [Value.ownBlock]⟩)
 have bel0 := hid (ba w (.cells #[.pointer none, .slice none 0 0] 106))
 have c32 : ((32 : UInt8).toNat : Int) = 32 := by decide
 have SP : Hid (∀ k W, 0 < k → k < ws.length → Bd w.heap.size (joinW (ws.take k)) W → Calls Tryz.prog 56 #[ptr w.heap.size, .int .u8 32] W fun e w' => e = .returned .nilIface ∧ Bd w.heap.size (preW (ws.take k)) w' ∧ Below w.heap.size W w') := hid (fun k W h0 hk hb => by
   have h1 := joinW_len ws k (by omega)
   have h2 := lenJ_le ws k
   have := WriteByte_any (b := 32) hb (by omega)
   rw [c32] at this
   have e2 : preW (ws.take k) = joinW (ws.take k) ++ [32] := by
     unfold preW
     rw [if_neg (fun e => by have := congrArg List.length e; rw [List.length_take, List.length_nil] at this; omega)]
   rw [e2]
   exact this)
 have WR : Hid (∀ k W, k < ws.length → Bd w.heap.size (preW (ws.take k)) W → Calls Tryz.prog 57 #[ptr w.heap.size, .string ⟨(ws.getD k []).toArray⟩] W fun e w' => e = .returned (.tuple #[]) ∧ Bd w.heap.size (joinW (ws.take (k + 1))) w' ∧ Below w.heap.size W w') := hid (fun k W hk hb => by
   have h1 := joinW_len ws k (by omega)
   have h2 := lenJ_le ws (k + 1)
   rw [lenJ_take hk] at h2
   have h3 := preW_len (ws.take k)
   have := write_any (x := ws.getD k []) hb (by omega)
   rw [take_snoc hk, joinW_snoc]
   exact this)
 have P0 : Hid (preW (ws.take 0) = joinW (ws.take 0)) := hid (by simp [preW, joinW])
 have FN : Hid (∀ W, Bd w.heap.size (joinW (ws.take ws.length)) W → Calls Tryz.prog 58 #[ptr w.heap.size] W fun e w' => e = .returned (.string ⟨(joinW ws).toArray⟩) ∧ Below w.heap.size W w') := hid (fun W hb => by
   rw [List.take_length] at hb
   exact String_any hb)
 clear hs c32 hl
 generalize hJ : ByteArray.mk (joinW ws).toArray = J at *
 clear hJ
 generalize hnw : ws.length = n at *
 have HN := hid hnw
 clear hnw
 go_enter Tryz.func29, Tryz.ntmps29
 go_wp2
 go_loopw [8] (fun iv wr => ∃ k : Nat, k ≤ n ∧ iv = .int .i64 (k : Int) ∧ Hid (Bd w.heap.size (joinW (ws.take k)) wr) ∧ Hid (Below w.heap.size w wr)) (fun iv _ => n - (intOf iv).toNat)
 case atStart => exact ⟨0, by omega, rfl, b0, bel0⟩
 case round =>
   obtain ⟨k, hk, rfl, hA, hB⟩ := hrel
   by_cases hlt : k < n
   · obtain ⟨g, o, rfl, _, h1⟩ := (HS.out.later hB.out).at (j := k) (by rw [HN.out]; exact hlt)
     have hlt' : (k : Int) < (n : Int) := by omega
     by_cases h0 : k = 0
     · have Q := hid (WR.out k wr hlt (by have := hA.out; rw [h0] at this ⊢; rw [P0.out]; exact this))
       have hz : ¬ (0 : Int) < (k : Int) := by omega
       generalize ByteArray.mk (ws.getD k []).toArray = X at *
       clear h0
       go_wp2_with (go_at_call 57; refine Q.out.mono ?_; rintro e w2 ⟨rfl, A2, B2⟩; have AA2 := hid A2; have BB2 := hid (hB.out.trans B2); clear A2 B2)
       go_roundw
       case rel => exact ⟨k + 1, by omega, by go_num, AA2, BB2⟩
       case measure => simp [intOf]; omega
     · have Q := hid (SP.out k wr (by omega) hlt hA.out)
       have hz : (0 : Int) < (k : Int) := by omega
       have WK := hid (fun W hW => WR.out k W hlt hW)
       clear h0
       generalize ByteArray.mk (ws.getD k []).toArray = X at *
       go_wp2_with (go_at_call 56; refine Q.out.mono ?_; rintro e w2 ⟨rfl, A2, B2⟩; have Q2 := hid (WK.out w2 A2); have BB2 := hid (hB.out.trans B2); clear A2 B2; refine Hid.out ?_)
       refine hid ?_
       go_wp2_with (go_at_call 57; refine Q2.out.mono ?_; rintro e w3 ⟨rfl, A3, B3⟩; have AA3 := hid A3; have BB3 := hid (BB2.out.trans B3); clear A3 B3)
       go_roundw
       case rel => exact ⟨k + 1, by omega, by go_num, AA3, BB3⟩
       case measure => simp [intOf]; omega
   · have hlt' : ¬ (k : Int) < (n : Int) := by omega
     have ek : k = n := by omega
     have Q := hid (FN.out wr (by rw [← ek]; exact hA.out))
     clear ek
     go_wp2_with (go_at_call 58; refine Q.out.mono ?_; rintro e w2 ⟨rfl, B2⟩; have BB2 := hid (hB.out.trans B2); clear B2)
     go_ret
     exact ⟨rfl, BB2.out⟩
set_option linter.unusedVariables false
set_option maxRecDepth 1000000
set_option maxHeartbeats 1600000
def BRd (w : World) (s : Value) (l : List UInt8) : Prop :=
 ∃ ao c, s = .slice ao l.length c ∧ l.length ≤ c ∧ (l = [] ∨ ∃ g o, ao = some ⟨g, o, none⟩ ∧ g < w.heap.size ∧ ∀ j b, l[j]? = some b → w.cell? ⟨g, o + j, none⟩ = some (.int .u8 (b.toNat : Int)))
theorem BRd.later {w w' : World} {s : Value} {l : List UInt8} (h : BRd w s l) (hb : Below w.heap.size w w') : BRd w' s l := by
 obtain ⟨ao, c, e, hc, hx⟩ := h
 refine ⟨ao, c, e, hc, hx.imp id ?_⟩
 rintro ⟨g, o, ea, hg, hcell⟩
 exact ⟨g, o, ea, Nat.lt_of_lt_of_le hg hb.size, fun j b hj => cell_under hb hg (hcell j b hj)⟩
theorem BRd.form {w : World} {s : Value} {l : List UInt8} (h : BRd w s l) : ∃ ao c, s = .slice ao l.length c := by obtain ⟨ao, c, e, _⟩ := h; exact ⟨ao, c, e⟩
theorem BRd.at {w : World} {ao : Option Addr} {n c : Nat} {l : List UInt8} (h : BRd w (.slice ao n c) l) {j : Nat} (hj : j < l.length) : ∃ g o b, ao = some ⟨g, o, none⟩ ∧ l[j]? = some b ∧ w.cell? ⟨g, o + j, none⟩ = some (.int .u8 (b.toNat : Int)) := by
 obtain ⟨a1, c1, e, hc, hx⟩ := h
 injection e with e1 e2 e3
 subst e1
 rcases hx with rfl | ⟨g, o, ea, hg, hcell⟩
 · simp at hj
 · exact ⟨g, o, l[j], ea, List.getElem?_eq_getElem hj, hcell j _ (List.getElem?_eq_getElem hj)⟩
def hxD : List UInt8 := [48, 49, 50, 51, 52, 53, 54, 55, 56, 57, 97, 98, 99, 100, 101, 102]
def hexB (b : UInt8) : List UInt8 := [hxD.getD (b.toNat / 16) 0, hxD.getD (b.toNat % 16) 0]
def hexW (l : List UInt8) : List UInt8 := l.flatMap hexB
def flagW (b : Bool) : List UInt8 := if b then [102, 114, 101, 115, 104] else [111, 108, 100]
theorem flag_any (b : Bool) (w : World) : Calls Tryz.prog 86 #[.bool b] w fun e w' => e = .returned (.string ⟨(flagW b).toArray⟩) ∧ w' = w := by
 cases b
 all_goals
   go_enter Tryz.func86, Tryz.ntmps86
   go_wp2
   go_ret
   exact ⟨rfl, rfl⟩
theorem hexW_snoc {l : List UInt8} {j : Nat} {b : UInt8} (h : l[j]? = some b) : hexW (l.take (j + 1)) = hexW (l.take j) ++ [hxD.getD (b.toNat / 16) 0] ++ [hxD.getD (b.toNat % 16) 0] := by
 rw [List.take_add_one, h]; simp [hexW, hexB]
theorem hexW_len (l : List UInt8) : (hexW l).length = 2 * l.length := by
 induction l with
 | nil => rfl
 | cons b r ih =>
   have : hexW (b :: r) = hexB b ++ hexW r := rfl
   rw [this, List.length_append, ih, List.length_cons]
   show 2 + _ = _
   omega
theorem hx_at (i : Nat) (h : i < (ByteArray.mk #[48, 49, 50, 51, 52, 53, 54, 55, 56, 57, 97, 98, 99, 100, 101, 102]).size) : (ByteArray.mk #[48, 49, 50, 51, 52, 53, 54, 55, 56, 57, 97, 98, 99, 100, 101, 102])[i] = hxD.getD i 0 := by
 have h' : i < hxD.length := h
 rw [List.getD_eq_getElem?_getD, List.getElem?_eq_getElem h']
 rfl
theorem dataWord_any {s : Value} {l : List UInt8} {w : World} (hs : BRd w s l) (hl : l.length ≤ 10000000) :
   Calls Tryz.prog 87 #[s] w fun e w' => e = .returned (.string ⟨(hexW l).toArray⟩) ∧ Below w.heap.size w w' := by
 obtain ⟨ao, c, rfl⟩ := hs.form
 have HS := hid hs
 have b0 : Hid (Bd w.heap.size (hexW (l.take 0)) (w.alloc (.cells #[.pointer none, .slice none 0 0] 106))) := hid (Or.inl ⟨Nat.le_refl _, .slice none 0 0, heap_alloc_new w _, by simpa [hexW, cellsB] using World.ownsRow_nil _ _ 5 1, by simp [Value.ownBlock]⟩)
 have bel0 : Hid (Below w.heap.size w (w.alloc (.cells #[.pointer none, .slice none 0 0] 106))) := hid (ba w _)
 have FN : Hid (∀ W, Bd w.heap.size (hexW (l.take l.length)) W → Calls Tryz.prog 58 #[ptr w.heap.size] W fun e w' => e = .returned (.string ⟨(hexW l).toArray⟩) ∧ Below w.heap.size W w') := hid (fun W hb => by
   rw [List.take_length] at hb
   exact String_any hb)
 have HL := hid hl
 clear hs
 generalize hJ : ByteArray.mk (hexW l).toArray = J at *
 clear hJ
 generalize hnw : l.length = n at *
 have HN := hid hnw
 clear hnw
 go_enter Tryz.func87, Tryz.ntmps87
 go_wp2
 go_loopw [8] (fun iv wr => ∃ k : Nat, k ≤ n ∧ iv = .int .i64 (k : Int) ∧ Hid (Bd w.heap.size (hexW (l.take k)) wr) ∧ Hid (Below w.heap.size w wr)) (fun iv _ => n - (intOf iv).toNat)
 case atStart => exact ⟨0, by omega, rfl, b0, bel0⟩
 case round =>
   obtain ⟨k, hk, rfl, hA, hB⟩ := hrel
   clear b0 bel0
   by_cases hlt : k < n
   · obtain ⟨g, o, b, rfl, hb, hcb⟩ := (HS.out.later hB.out).at (j := k) (by rw [HN.out]; exact hlt)
     have hlt' : (k : Int) < (n : Int) := by omega
     have hb8 := b.toNat_lt
     have LN : Hid ((hexW (l.take k)).length + 2 ≤ 140737488355328) := hid (by rw [hexW_len, List.length_take]; have := HL.out; omega)
     have NX := hid (hexW_snoc hb)
     clear hb
     go_wp2_with (first | (go_at_call 56; refine (WriteByte_any hA.out (by have := LN.out; omega)).mono ?_; rintro e w1 ⟨rfl, hA1, hB1⟩; have A1 := hid hA1; have B1 := hid (hB.out.trans hB1); clear hA1 hB1 hA) | (go_at_call 56; refine (WriteByte_any A1.out (by have := LN.out; simp; omega)).mono ?_; rintro e w2 ⟨rfl, hA2, hB2⟩; have A2 := hid hA2; have B2 := hid (B1.out.trans hB2); clear hA2 hB2))
     go_roundw
     case rel => exact ⟨k + 1, by omega, by go_num, hid (by rw [NX.out, ← hx_at _ (by show _ < 16; omega), ← hx_at _ (by show _ < 16; omega)]; exact A2.out), B2⟩
     case measure => simp [intOf]; omega
   · have hlt' : ¬ (k : Int) < (n : Int) := by omega
     have ek : k = n := by omega
     have AN : Hid (Bd w.heap.size (hexW (l.take n)) wr) := hid (by rw [← ek]; exact hA.out)
     clear ek hA
     go_wp2_with (go_at_call 58; refine (FN.out _ AN.out).mono ?_; rintro e w2 ⟨rfl, hB2⟩; have B2 := hid (hB.out.trans hB2); clear hB2)
     go_ret
     exact ⟨rfl, B2.out⟩
end Go.Proofs.YtfeppannfcbakaaGreatDoor

namespace Go.Proofs.YtfeppannfcbakaaGreatDoor
def formN : List Int := [0, 0, 0, 0, 0, 0, 0, 0, 1, 16, 0, 0, 0, 0, 0, 0, 1, 16, 0, 0, 0, 0, 0, 0, 1, 16, 0, 64, 0, 0, 0, 0, 1, 16, 0, 0, 0, 1099511627776, 0, 0, 1, 16, 1, 16, 0, 0, 0, 0, 1, 16, 0, 0, 0, 1099511627776, 1, 8, 1, 16, 0, 0, 0, 0, 0, 0, 0, 0, 0, 0, 0, 0, 0, 0]
def wfN : List (List UInt8 × List UInt8) := [([], []), ([109, 97, 107, 101], [78]), ([100, 114, 111, 112], [78]), ([112, 117, 115, 104], [78, 84]), ([116, 114, 105, 109], [78, 75]), ([116, 97, 107, 101], [78, 84]), ([114, 101, 97, 100], [78, 75, 77]), ([99, 111, 117, 110, 116], [78]), ([108, 105, 115, 116], [])]
end Go.Proofs.YtfeppannfcbakaaGreatDoor

namespace Go.Proofs.YtfeppannfcbakaaGreatDoor
open Go.RowKit
set_option linter.unusedVariables false
structure Tab (w : World) : Prop where
 lt : 4 < w.heap.size
 cell : ∀ i, i < 72 → w.cell? ⟨4, i, none⟩ = some (.int .i64 (formN.getD i 0))
theorem Tab.below {w w' : World} (h : Tab w) (hb : Below w.heap.size w w') : Tab w' :=
 ⟨Nat.lt_of_lt_of_le h.lt hb.size, fun i hi => cell_under hb h.lt (h.cell i hi)⟩
abbrev spanV (a b : Int) : Value := .agg #[.int .i64 a, .int .i64 b]
def hs (b : Int) : Bool := decide (0 < b)
def hl (a b n : Int) : Bool := decide (a ≤ n) && decide (n ≤ b)
def wr (a b n : Int) : Bool := hs b && !hl a b n
def ex (b n : Int) : Bool := !hs b && decide (n ≠ 0)
theorem has_any {w : World} (a b : Int) : Calls Tryz.prog 166 #[spanV a b] w fun e w' => e = .returned (.bool (hs b)) ∧ Below w.heap.size w w' := by
 go_enter Tryz.func166, Tryz.ntmps166
 go_wp2
 go_ret
 exact ⟨rfl, ba _ _⟩
theorem holds_any {w : World} (a b n : Int) : Calls Tryz.prog 167 #[spanV a b, .int .i64 n] w fun e w' => e = .returned (.bool (hl a b n)) ∧ Below w.heap.size w w' := by
 by_cases h : a ≤ n
 · have e1 : decide (a ≤ n) = true := by simpa using h
   go_enter Tryz.func167, Tryz.ntmps167
   go_wp2
   go_ret
   exact ⟨by simp [hl, h], ba _ _⟩
 · have e1 : decide (a ≤ n) = false := by simpa using h
   go_enter Tryz.func167, Tryz.ntmps167
   go_wp2
   go_ret
   exact ⟨by simp [hl, e1], ba _ _⟩
theorem has_b {w : World} (a b : Int) : Calls Tryz.prog 166 #[spanV a b] w fun e w' => ∃ x, Hid (hs b = x) ∧ e = .returned (.bool x) ∧ Hid (Below w.heap.size w w') :=
 (has_any a b).mono fun e w' ⟨h, h'⟩ => ⟨_, hid rfl, h, h'⟩
theorem holds_b {w : World} (a b n : Int) : Calls Tryz.prog 167 #[spanV a b, .int .i64 n] w fun e w' => ∃ x, Hid (hl a b n = x) ∧ e = .returned (.bool x) ∧ Hid (Below w.heap.size w w') :=
 (holds_any a b n).mono fun e w' ⟨h, h'⟩ => ⟨_, hid rfl, h, h'⟩
theorem b2 {w w1 w2 : World} (h : Below w.heap.size w w1) (k : Below w1.heap.size w1 w2) : Below w.heap.size w w2 := h.trans (k.mono h.size)
set_option linter.unusedVariables false
set_option maxRecDepth 1000000
theorem wrong_any {w : World} (a b n : Int) : Calls Tryz.prog 145 #[spanV a b, .int .i64 n] w fun e w' => e = .returned (.bool (wr a b n)) ∧ Below w.heap.size w w' := by
 go_enter Tryz.func145, Tryz.ntmps145
 go_wp2_with fail
 refine (has_b a b).mono ?_
 rintro e w1 ⟨x, H0, rfl, B1⟩
 have hh := heap_alloc_new w (.cells #[.int .i64 a, .int .i64 b] 196)
 have hh1 : w1.heap[w.heap.size]? = some (.cells #[.int .i64 a, .int .i64 b] 196) := by rw [B1.out.block _ (by simp)]; exact hh
 have c0 : w1.cell? ⟨w.heap.size, 0, none⟩ = some (.int .i64 a) := by rw [cell_at hh1]; rfl
 have c1 : w1.cell? ⟨w.heap.size, 1, none⟩ = some (.int .i64 b) := by rw [cell_at hh1]; rfl
 clear hh hh1
 have B2 := hid (b2 (ba w _) B1.out)
 clear B1
 cases x with
 | false =>
   go_wp2
   go_ret
   exact ⟨by simp [wr, H0.out], B2.out⟩
 | true =>
   go_wp2_with fail
   refine (holds_b a b n).mono ?_
   rintro e w2 ⟨x, H1, rfl, B3⟩
   have B4 := hid (b2 B2.out B3.out)
   clear B2 B3
   go_wp2
   go_ret
   exact ⟨by simp [wr, H0.out, H1.out], B4.out⟩
theorem extra_any {w : World} (a b n : Int) : Calls Tryz.prog 146 #[spanV a b, .int .i64 n] w fun e w' => e = .returned (.bool (ex b n)) ∧ Below w.heap.size w w' := by
 go_enter Tryz.func146, Tryz.ntmps146
 go_wp2_with fail
 refine (has_b a b).mono ?_
 rintro e w1 ⟨x, H0, rfl, B1⟩
 have B2 := hid (b2 (ba w _) B1.out)
 clear B1
 cases x with
 | true =>
   go_wp2
   go_ret
   exact ⟨by simp [ex, H0.out], B2.out⟩
 | false =>
   go_wp2
   go_ret
   exact ⟨by simp [ex, H0.out, bne, BEq.beq], B2.out⟩
theorem wrong_b {w : World} (a b n : Int) : Calls Tryz.prog 145 #[spanV a b, .int .i64 n] w fun e w' => ∃ x, Hid (wr a b n = x) ∧ e = .returned (.bool x) ∧ Hid (Below w.heap.size w w') :=
 (wrong_any a b n).mono fun e w' ⟨h, h'⟩ => ⟨_, hid rfl, h, h'⟩
theorem extra_b {w : World} (a b n : Int) : Calls Tryz.prog 146 #[spanV a b, .int .i64 n] w fun e w' => ∃ x, Hid (ex b n = x) ∧ e = .returned (.bool x) ∧ Hid (Below w.heap.size w w') :=
 (extra_any a b n).mono fun e w' ⟨h, h'⟩ => ⟨_, hid rfl, h, h'⟩
end Go.Proofs.YtfeppannfcbakaaGreatDoor

import Derived.Test.YtdhkdniddjnigaaGreatDoorJ1
import Derived.Shelf.Small.Strs
import Derived.Test.YtdhkdniddjnigaaGreatDoorProg
namespace Go.Proofs.YtdhkdniddjnigaaGreatDoor
open Go.RowKit
set_option linter.unusedVariables false

set_option maxHeartbeats 1600000 in
set_option maxRecDepth 1000000 in
theorem end_any {B : Nat} {st : Int} {wv dv : Value} {op es cd : Int} {ws : Ws} {wd : List UInt8} {cs : List Comp} {w : World} (h : All (rdL B st wv dv op es cd ws wd ++ cs) w) (hl : ws.length + 1 ≤ 1000000000000) :
    Calls Tryz.prog 159 #[ptr B] w fun e w' => e = .returned (.tuple #[]) ∧ ∃ wv', All (rdL B st wv' dv op es cd (ws ++ [wd]) wd ++ cs) w' := by
  have h := h.drew
  obtain ⟨⟨s0, s1, s2, s3, s4, s5⟩, hf⟩ := rd_cells h
  obtain ⟨ao0, c0, rfl⟩ := owns_form (h.tail.tail.1.2.1 : w.drew.ownsRow 0 5 1 dv _ _)
  obtain ⟨ao1, c1, rfl⟩ := owns_form (h.tail.1.2.1 : w.drew.ownsRow 0 9 1 wv _ _)
  have hBw : B < w.drew.heap.size := (h.1.2.2 B (by simp [blkC]))
  have cv := conv_string (reads_own h.tail.tail)
  have u1 : (w.alloc (.cells #[.string ⟨wd.toArray⟩] 9)).cell? ⟨B, 1, none⟩ = _ := cell_under (ba w.drew (.cells #[.string ⟨wd.toArray⟩] 9)) hBw s1
  obtain ⟨ao, c, w1, hr, A1⟩ := app_txt h.swap wd hl
  obtain ⟨⟨t0, t1, t2, t3, t4, t5⟩, hf1⟩ := rd_cells A1.swap
  have f1 := hf1 1
  have A2 := hid (A1.swap.setBlk 1 (.slice ao (ws.length + 1) c))
  rw [txW_length, cellsB_length] at *
  have R := hid hr
  clear hr A1 h hf1 hf
  generalize hn : wd.length = n at *
  clear hn
  generalize hm : ws.length = m at *
  clear hm
  generalize hx : ByteArray.mk wd.toArray = X at *
  clear hx
  go_enter Tryz.func159, Tryz.ntmps159
  go_wp2_with fail
  go_region_law (refine step_append_run (by rfl) (.tmp 6) (.tmp 12) 43 (by rfl) _ _ _ _ (by rfl) (by rfl) R.out ?_)
  all_goals (go_end0; exact ⟨rfl, _, A2.out⟩)
end Go.Proofs.YtdhkdniddjnigaaGreatDoor

/- strings.IndexByte at this program: which number is which. -/
namespace Go.Proofs
open Go.Shelf
def Tryz.lays137_ren : Go.Shelf.Ren := ⟨fun | 137 => 188 | 217 => 209 | 266 => 222 | n => n, fun | 9 => 9 | 5 => 5 | 3 => 3 | n => n, fun | n => n⟩
theorem Tryz.lays137 : Go.Proofs.Lays.n137 Tryz.prog Tryz.lays137_ren := {
  mixed := by kernel_rfl
  f137 := Tryz.func188.trans (congrArg some (by kernel_rfl))
  f217 := Tryz.func209.trans (congrArg some (by kernel_rfl))
  f266 := Tryz.func222.trans (congrArg some (by kernel_rfl))
  t3 := Tryz.underlying3
  a3 := Tryz.isAgg3
  z3 := Tryz.sizeOf3
  v3 := Tryz.zeroValue3
  t5 := Tryz.underlying5
  a5 := Tryz.isAgg5
  z5 := Tryz.sizeOf5
  v5 := Tryz.zeroValue5
  t9 := Tryz.underlying9
  a9 := Tryz.isAgg9
  z9 := Tryz.sizeOf9
  v9 := Tryz.zeroValue9 }
end Go.Proofs

namespace Go.Proofs.YtdhkdniddjnigaaGreatDoor
open Go.RowKit
set_option linter.unusedVariables false

def bareI (k : Int) : Bool := decide ((97 ≤ k ∧ k ≤ 122) ∨ (65 ≤ k ∧ k ≤ 90) ∨ (48 ≤ k ∧ k ≤ 57) ∨ k = 45 ∨ k = 95 ∨ k = 46 ∨ k = 47)
theorem bareI_nat (n : Nat) : bareI (n : Int) = bareN n := by
  unfold bareI bareN
  rw [Bool.eq_iff_iff]
  simp only [decide_eq_true_eq]
  omega
def prnI (k : Int) : Bool := decide (32 ≤ k ∧ k ≤ 126)
theorem prnI_nat (n : Nat) : prnI (n : Int) = prnN n := by
  unfold prnI prnN
  rw [Bool.eq_iff_iff]
  simp only [decide_eq_true_eq]
  omega

set_option maxRecDepth 1000000 in
theorem isBare_int (k : Int) (w : World) : Calls Tryz.prog 158 #[.int .u8 k] w fun e w' => e = .returned (.bool (bareI k)) ∧ w' = w := by
  have key : ∀ b, bareI k = b → Hid (bareI k = b) := fun b h => h
  by_cases e45 : k = 45
  · subst e45
    have H := key true (decide_eq_true (by omega))
    clear key
    go_enter Tryz.func158, Tryz.ntmps158
    go_wp2
    go_ret
    exact ⟨by rw [H.out]; rfl, rfl⟩
  have n45 : (k == 45) = false := by simpa using e45
  by_cases e95 : k = 95
  · subst e95
    have H := key true (decide_eq_true (by omega))
    clear key
    go_enter Tryz.func158, Tryz.ntmps158
    go_wp2
    go_ret
    exact ⟨by rw [H.out]; rfl, rfl⟩
  have n95 : (k == 95) = false := by simpa using e95
  by_cases e46 : k = 46
  · subst e46
    have H := key true (decide_eq_true (by omega))
    clear key
    go_enter Tryz.func158, Tryz.ntmps158
    go_wp2
    go_ret
    exact ⟨by rw [H.out]; rfl, rfl⟩
  have n46 : (k == 46) = false := by simpa using e46
  by_cases e47 : k = 47
  · subst e47
    have H := key true (decide_eq_true (by omega))
    clear key
    go_enter Tryz.func158, Tryz.ntmps158
    go_wp2
    go_ret
    exact ⟨by rw [H.out]; rfl, rfl⟩
  have n47 : (k == 47) = false := by simpa using e47
  by_cases a97 : 97 ≤ k
  · by_cases b122 : k ≤ 122
    · have H := key true (decide_eq_true (by omega))
      clear key
      go_enter Tryz.func158, Tryz.ntmps158
      go_wp2
      go_ret
      exact ⟨by rw [H.out]; rfl, rfl⟩
    · by_cases a65 : 65 ≤ k
      · by_cases b90 : k ≤ 90
        · have H := key true (decide_eq_true (by omega))
          clear key
          go_enter Tryz.func158, Tryz.ntmps158
          go_wp2
          go_ret
          exact ⟨by rw [H.out]; rfl, rfl⟩
        · by_cases a48 : 48 ≤ k
          · by_cases b57 : k ≤ 57
            · have H := key true (decide_eq_true (by omega))
              clear key
              go_enter Tryz.func158, Tryz.ntmps158
              go_wp2
              go_ret
              exact ⟨by rw [H.out]; rfl, rfl⟩
            · have H := key false (decide_eq_false (by omega))
              clear key
              go_enter Tryz.func158, Tryz.ntmps158
              go_wp2
              go_ret
              exact ⟨by rw [H.out]; rfl, rfl⟩
          · have H := key false (decide_eq_false (by omega))
            clear key
            go_enter Tryz.func158, Tryz.ntmps158
            go_wp2
            go_ret
            exact ⟨by rw [H.out]; rfl, rfl⟩
      · by_cases a48 : 48 ≤ k
        · by_cases b57 : k ≤ 57
          · have H := key true (decide_eq_true (by omega))
            clear key
            go_enter Tryz.func158, Tryz.ntmps158
            go_wp2
            go_ret
            exact ⟨by rw [H.out]; rfl, rfl⟩
          · have H := key false (decide_eq_false (by omega))
            clear key
            go_enter Tryz.func158, Tryz.ntmps158
            go_wp2
            go_ret
            exact ⟨by rw [H.out]; rfl, rfl⟩
        · have H := key false (decide_eq_false (by omega))
          clear key
          go_enter Tryz.func158, Tryz.ntmps158
          go_wp2
          go_ret
          exact ⟨by rw [H.out]; rfl, rfl⟩
  · by_cases a65 : 65 ≤ k
    · by_cases b90 : k ≤ 90
      · have H := key true (decide_eq_true (by omega))
        clear key
        go_enter Tryz.func158, Tryz.ntmps158
        go_wp2
        go_ret
        exact ⟨by rw [H.out]; rfl, rfl⟩
      · by_cases a48 : 48 ≤ k
        · by_cases b57 : k ≤ 57
          · have H := key true (decide_eq_true (by omega))
            clear key
            go_enter Tryz.func158, Tryz.ntmps158
            go_wp2
            go_ret
            exact ⟨by rw [H.out]; rfl, rfl⟩
          · have H := key false (decide_eq_false (by omega))
            clear key
            go_enter Tryz.func158, Tryz.ntmps158
            go_wp2
            go_ret
            exact ⟨by rw [H.out]; rfl, rfl⟩
        · have H := key false (decide_eq_false (by omega))
          clear key
          go_enter Tryz.func158, Tryz.ntmps158
          go_wp2
          go_ret
          exact ⟨by rw [H.out]; rfl, rfl⟩
    · by_cases a48 : 48 ≤ k
      · by_cases b57 : k ≤ 57
        · have H := key true (decide_eq_true (by omega))
          clear key
          go_enter Tryz.func158, Tryz.ntmps158
          go_wp2
          go_ret
          exact ⟨by rw [H.out]; rfl, rfl⟩
        · have H := key false (decide_eq_false (by omega))
          clear key
          go_enter Tryz.func158, Tryz.ntmps158
          go_wp2
          go_ret
          exact ⟨by rw [H.out]; rfl, rfl⟩
      · have H := key false (decide_eq_false (by omega))
        clear key
        go_enter Tryz.func158, Tryz.ntmps158
        go_wp2
        go_ret
        exact ⟨by rw [H.out]; rfl, rfl⟩

theorem isBare_any (b : UInt8) (w : World) : Calls Tryz.prog 158 #[.int .u8 (b.toNat : Int)] w fun e w' => e = .returned (.bool (bareN b.toNat)) ∧ w' = w := by
  rw [← bareI_nat]
  exact isBare_int _ _

set_option maxRecDepth 1000000 in
theorem rbare_int (k : Int) (w : World) : Calls Tryz.prog 136 #[.int .u8 k] w fun e w' => e = .returned (.bool (bareI k)) ∧ w' = w := by
  have key : ∀ b, bareI k = b → Hid (bareI k = b) := fun b h => h
  by_cases a97 : 97 ≤ k
  · by_cases b122 : k ≤ 122
    · have H := key true (decide_eq_true (by omega))
      clear key
      go_enter Tryz.func136, Tryz.ntmps136
      go_wp2
      go_ret
      exact ⟨by rw [H.out]; rfl, rfl⟩
    · by_cases a65 : 65 ≤ k
      · by_cases b90 : k ≤ 90
        · have H := key true (decide_eq_true (by omega))
          clear key
          go_enter Tryz.func136, Tryz.ntmps136
          go_wp2
          go_ret
          exact ⟨by rw [H.out]; rfl, rfl⟩
        · by_cases a48 : 48 ≤ k
          · by_cases b57 : k ≤ 57
            · have H := key true (decide_eq_true (by omega))
              clear key
              go_enter Tryz.func136, Tryz.ntmps136
              go_wp2
              go_ret
              exact ⟨by rw [H.out]; rfl, rfl⟩
            · by_cases e45 : k = 45
              · subst e45
                have H := key true (decide_eq_true (by omega))
                clear key
                go_enter Tryz.func136, Tryz.ntmps136
                go_wp2
                go_ret
                exact ⟨by rw [H.out]; rfl, rfl⟩
              have n45 : (k == 45) = false := by simpa using e45
              by_cases e95 : k = 95
              · subst e95
                have H := key true (decide_eq_true (by omega))
                clear key
                go_enter Tryz.func136, Tryz.ntmps136
                go_wp2
                go_ret
                exact ⟨by rw [H.out]; rfl, rfl⟩
              have n95 : (k == 95) = false := by simpa using e95
              by_cases e46 : k = 46
              · subst e46
                have H := key true (decide_eq_true (by omega))
                clear key
                go_enter Tryz.func136, Tryz.ntmps136
                go_wp2
                go_ret
                exact ⟨by rw [H.out]; rfl, rfl⟩
              have n46 : (k == 46) = false := by simpa using e46
              by_cases e47 : k = 47
              · subst e47
                have H := key true (decide_eq_true (by omega))
                clear key
                go_enter Tryz.func136, Tryz.ntmps136
                go_wp2
                go_ret
                exact ⟨by rw [H.out]; rfl, rfl⟩
              have n47 : (k == 47) = false := by simpa using e47
              have H := key false (decide_eq_false (by omega))
              clear key
              go_enter Tryz.func136, Tryz.ntmps136
              go_wp2
              go_ret
              exact ⟨by rw [H.out]; rfl, rfl⟩
          · by_cases e45 : k = 45
            · subst e45
              have H := key true (decide_eq_true (by omega))
              clear key
              go_enter Tryz.func136, Tryz.ntmps136
              go_wp2
              go_ret
              exact ⟨by rw [H.out]; rfl, rfl⟩
            have n45 : (k == 45) = false := by simpa using e45
            by_cases e95 : k = 95
            · subst e95
              have H := key true (decide_eq_true (by omega))
              clear key
              go_enter Tryz.func136, Tryz.ntmps136
              go_wp2
              go_ret
              exact ⟨by rw [H.out]; rfl, rfl⟩
            have n95 : (k == 95) = false := by simpa using e95
            by_cases e46 : k = 46
            · subst e46
              have H := key true (decide_eq_true (by omega))
              clear key
              go_enter Tryz.func136, Tryz.ntmps136
              go_wp2
              go_ret
              exact ⟨by rw [H.out]; rfl, rfl⟩
            have n46 : (k == 46) = false := by simpa using e46
            by_cases e47 : k = 47
            · subst e47
              have H := key true (decide_eq_true (by omega))
              clear key
              go_enter Tryz.func136, Tryz.ntmps136
              go_wp2
              go_ret
              exact ⟨by rw [H.out]; rfl, rfl⟩
            have n47 : (k == 47) = false := by simpa using e47
            have H := key false (decide_eq_false (by omega))
            clear key
            go_enter Tryz.func136, Tryz.ntmps136
            go_wp2
            go_ret
            exact ⟨by rw [H.out]; rfl, rfl⟩
      · by_cases a48 : 48 ≤ k
        · by_cases b57 : k ≤ 57
          · have H := key true (decide_eq_true (by omega))
            clear key
            go_enter Tryz.func136, Tryz.ntmps136
            go_wp2
            go_ret
            exact ⟨by rw [H.out]; rfl, rfl⟩
          · by_cases e45 : k = 45
            · subst e45
              have H := key true (decide_eq_true (by omega))
              clear key
              go_enter Tryz.func136, Tryz.ntmps136
              go_wp2
              go_ret
              exact ⟨by rw [H.out]; rfl, rfl⟩
            have n45 : (k == 45) = false := by simpa using e45
            by_cases e95 : k = 95
            · subst e95
              have H := key true (decide_eq_true (by omega))
              clear key
              go_enter Tryz.func136, Tryz.ntmps136
              go_wp2
              go_ret
              exact ⟨by rw [H.out]; rfl, rfl⟩
            have n95 : (k == 95) = false := by simpa using e95
            by_cases e46 : k = 46
            · subst e46
              have H := key true (decide_eq_true (by omega))
              clear key
              go_enter Tryz.func136, Tryz.ntmps136
              go_wp2
              go_ret
              exact ⟨by rw [H.out]; rfl, rfl⟩
            have n46 : (k == 46) = false := by simpa using e46
            by_cases e47 : k = 47
            · subst e47
              have H := key true (decide_eq_true (by omega))
              clear key
              go_enter Tryz.func136, Tryz.ntmps136
              go_wp2
              go_ret
              exact ⟨by rw [H.out]; rfl, rfl⟩
            have n47 : (k == 47) = false := by simpa using e47
            have H := key false (decide_eq_false (by omega))
            clear key
            go_enter Tryz.func136, Tryz.ntmps136
            go_wp2
            go_ret
            exact ⟨by rw [H.out]; rfl, rfl⟩
        · by_cases e45 : k = 45
          · subst e45
            have H := key true (decide_eq_true (by omega))
            clear key
            go_enter Tryz.func136, Tryz.ntmps136
            go_wp2
            go_ret
            exact ⟨by rw [H.out]; rfl, rfl⟩
          have n45 : (k == 45) = false := by simpa using e45
          by_cases e95 : k = 95
          · subst e95
            have H := key true (decide_eq_true (by omega))
            clear key
            go_enter Tryz.func136, Tryz.ntmps136
            go_wp2
            go_ret
            exact ⟨by rw [H.out]; rfl, rfl⟩
          have n95 : (k == 95) = false := by simpa using e95
          by_cases e46 : k = 46
          · subst e46
            have H := key true (decide_eq_true (by omega))
            clear key
            go_enter Tryz.func136, Tryz.ntmps136
            go_wp2
            go_ret
            exact ⟨by rw [H.out]; rfl, rfl⟩
          have n46 : (k == 46) = false := by simpa using e46
          by_cases e47 : k = 47
          · subst e47
            have H := key true (decide_eq_true (by omega))
            clear key
            go_enter Tryz.func136, Tryz.ntmps136
            go_wp2
            go_ret
            exact ⟨by rw [H.out]; rfl, rfl⟩
          have n47 : (k == 47) = false := by simpa using e47
          have H := key false (decide_eq_false (by omega))
          clear key
          go_enter Tryz.func136, Tryz.ntmps136
          go_wp2
          go_ret
          exact ⟨by rw [H.out]; rfl, rfl⟩
  · by_cases a65 : 65 ≤ k
    · by_cases b90 : k ≤ 90
      · have H := key true (decide_eq_true (by omega))
        clear key
        go_enter Tryz.func136, Tryz.ntmps136
        go_wp2
        go_ret
        exact ⟨by rw [H.out]; rfl, rfl⟩
      · by_cases a48 : 48 ≤ k
        · by_cases b57 : k ≤ 57
          · have H := key true (decide_eq_true (by omega))
            clear key
            go_enter Tryz.func136, Tryz.ntmps136
            go_wp2
            go_ret
            exact ⟨by rw [H.out]; rfl, rfl⟩
          · by_cases e45 : k = 45
            · subst e45
              have H := key true (decide_eq_true (by omega))
              clear key
              go_enter Tryz.func136, Tryz.ntmps136
              go_wp2
              go_ret
              exact ⟨by rw [H.out]; rfl, rfl⟩
            have n45 : (k == 45) = false := by simpa using e45
            by_cases e95 : k = 95
            · subst e95
              have H := key true (decide_eq_true (by omega))
              clear key
              go_enter Tryz.func136, Tryz.ntmps136
              go_wp2
              go_ret
              exact ⟨by rw [H.out]; rfl, rfl⟩
            have n95 : (k == 95) = false := by simpa using e95
            by_cases e46 : k = 46
            · subst e46
              have H := key true (decide_eq_true (by omega))
              clear key
              go_enter Tryz.func136, Tryz.ntmps136
              go_wp2
              go_ret
              exact ⟨by rw [H.out]; rfl, rfl⟩
            have n46 : (k == 46) = false := by simpa using e46
            by_cases e47 : k = 47
            · subst e47
              have H := key true (decide_eq_true (by omega))
              clear key
              go_enter Tryz.func136, Tryz.ntmps136
              go_wp2
              go_ret
              exact ⟨by rw [H.out]; rfl, rfl⟩
            have n47 : (k == 47) = false := by simpa using e47
            have H := key false (decide_eq_false (by omega))
            clear key
            go_enter Tryz.func136, Tryz.ntmps136
            go_wp2
            go_ret
            exact ⟨by rw [H.out]; rfl, rfl⟩
        · by_cases e45 : k = 45
          · subst e45
            have H := key true (decide_eq_true (by omega))
            clear key
            go_enter Tryz.func136, Tryz.ntmps136
            go_wp2
            go_ret
            exact ⟨by rw [H.out]; rfl, rfl⟩
          have n45 : (k == 45) = false := by simpa using e45
          by_cases e95 : k = 95
          · subst e95
            have H := key true (decide_eq_true (by omega))
            clear key
            go_enter Tryz.func136, Tryz.ntmps136
            go_wp2
            go_ret
            exact ⟨by rw [H.out]; rfl, rfl⟩
          have n95 : (k == 95) = false := by simpa using e95
          by_cases e46 : k = 46
          · subst e46
            have H := key true (decide_eq_true (by omega))
            clear key
            go_enter Tryz.func136, Tryz.ntmps136
            go_wp2
            go_ret
            exact ⟨by rw [H.out]; rfl, rfl⟩
          have n46 : (k == 46) = false := by simpa using e46
          by_cases e47 : k = 47
          · subst e47
            have H := key true (decide_eq_true (by omega))
            clear key
            go_enter Tryz.func136, Tryz.ntmps136
            go_wp2
            go_ret
            exact ⟨by rw [H.out]; rfl, rfl⟩
          have n47 : (k == 47) = false := by simpa using e47
          have H := key false (decide_eq_false (by omega))
          clear key
          go_enter Tryz.func136, Tryz.ntmps136
          go_wp2
          go_ret
          exact ⟨by rw [H.out]; rfl, rfl⟩
    · by_cases a48 : 48 ≤ k
      · by_cases b57 : k ≤ 57
        · have H := key true (decide_eq_true (by omega))
          clear key
          go_enter Tryz.func136, Tryz.ntmps136
          go_wp2
          go_ret
          exact ⟨by rw [H.out]; rfl, rfl⟩
        · by_cases e45 : k = 45
          · subst e45
            have H := key true (decide_eq_true (by omega))
            clear key
            go_enter Tryz.func136, Tryz.ntmps136
            go_wp2
            go_ret
            exact ⟨by rw [H.out]; rfl, rfl⟩
          have n45 : (k == 45) = false := by simpa using e45
          by_cases e95 : k = 95
          · subst e95
            have H := key true (decide_eq_true (by omega))
            clear key
            go_enter Tryz.func136, Tryz.ntmps136
            go_wp2
            go_ret
            exact ⟨by rw [H.out]; rfl, rfl⟩
          have n95 : (k == 95) = false := by simpa using e95
          by_cases e46 : k = 46
          · subst e46
            have H := key true (decide_eq_true (by omega))
            clear key
            go_enter Tryz.func136, Tryz.ntmps136
            go_wp2
            go_ret
            exact ⟨by rw [H.out]; rfl, rfl⟩
          have n46 : (k == 46) = false := by simpa using e46
          by_cases e47 : k = 47
          · subst e47
            have H := key true (decide_eq_true (by omega))
            clear key
            go_enter Tryz.func136, Tryz.ntmps136
            go_wp2
            go_ret
            exact ⟨by rw [H.out]; rfl, rfl⟩
          have n47 : (k == 47) = false := by simpa using e47
          have H := key false (decide_eq_false (by omega))
          clear key
          go_enter Tryz.func136, Tryz.ntmps136
          go_wp2
          go_ret
          exact ⟨by rw [H.out]; rfl, rfl⟩
      · by_cases e45 : k = 45
        · subst e45
          have H := key true (decide_eq_true (by omega))
          clear key
          go_enter Tryz.func136, Tryz.ntmps136
          go_wp2
          go_ret
          exact ⟨by rw [H.out]; rfl, rfl⟩
        have n45 : (k == 45) = false := by simpa using e45
        by_cases e95 : k = 95
        · subst e95
          have H := key true (decide_eq_true (by omega))
          clear key
          go_enter Tryz.func136, Tryz.ntmps136
          go_wp2
          go_ret
          exact ⟨by rw [H.out]; rfl, rfl⟩
        have n95 : (k == 95) = false := by simpa using e95
        by_cases e46 : k = 46
        · subst e46
          have H := key true (decide_eq_true (by omega))
          clear key
          go_enter Tryz.func136, Tryz.ntmps136
          go_wp2
          go_ret
          exact ⟨by rw [H.out]; rfl, rfl⟩
        have n46 : (k == 46) = false := by simpa using e46
        by_cases e47 : k = 47
        · subst e47
          have H := key true (decide_eq_true (by omega))
          clear key
          go_enter Tryz.func136, Tryz.ntmps136
          go_wp2
          go_ret
          exact ⟨by rw [H.out]; rfl, rfl⟩
        have n47 : (k == 47) = false := by simpa using e47
        have H := key false (decide_eq_false (by omega))
        clear key
        go_enter Tryz.func136, Tryz.ntmps136
        go_wp2
        go_ret
        exact ⟨by rw [H.out]; rfl, rfl⟩

theorem rbare_any (b : UInt8) (w : World) : Calls Tryz.prog 136 #[.int .u8 (b.toNat : Int)] w fun e w' => e = .returned (.bool (bareN b.toNat)) ∧ w' = w := by
  rw [← bareI_nat]
  exact rbare_int _ _

set_option maxRecDepth 1000000 in
theorem prn_int (k : Int) (w : World) : Calls Tryz.prog 206 #[.int .u8 k] w fun e w' => e = .returned (.bool (prnI k)) ∧ w' = w := by
  have key : ∀ b, prnI k = b → Hid (prnI k = b) := fun b h => h
  by_cases a32 : 32 ≤ k
  · by_cases b126 : k ≤ 126
    · have H := key true (decide_eq_true (by omega))
      clear key
      go_enter Tryz.func206, Tryz.ntmps206
      go_wp2
      go_ret
      exact ⟨by rw [H.out]; rfl, rfl⟩
    · have H := key false (decide_eq_false (by omega))
      clear key
      go_enter Tryz.func206, Tryz.ntmps206
      go_wp2
      go_ret
      exact ⟨by rw [H.out]; rfl, rfl⟩
  · have H := key false (decide_eq_false (by omega))
    clear key
    go_enter Tryz.func206, Tryz.ntmps206
    go_wp2
    go_ret
    exact ⟨by rw [H.out]; rfl, rfl⟩

theorem prn_any (b : UInt8) (w : World) : Calls Tryz.prog 206 #[.int .u8 (b.toNat : Int)] w fun e w' => e = .returned (.bool (prnN b.toNat)) ∧ w' = w := by
  rw [← prnI_nat]
  exact prn_int _ _
end Go.Proofs.YtdhkdniddjnigaaGreatDoor

namespace Go.Proofs.YtdhkdniddjnigaaGreatDoor
open Go.RowKit
set_option linter.unusedVariables false

theorem isBareW_of {l : List UInt8} (h : ∀ j, j < l.length → bareN (l.getD j 0).toNat = true) : isBareW l = decide (l ≠ []) := by
  unfold isBareW
  rw [Bool.eq_iff_iff]
  simp only [decide_eq_true_eq]
  constructor
  · exact fun h => h.1
  · refine fun h0 => ⟨h0, fun b hb => ?_⟩
    obtain ⟨j, hj, rfl⟩ := List.getElem_of_mem hb
    have := h j hj
    simpa [List.getD, hj] using this
theorem isBareW_no {l : List UInt8} {k : Nat} (hk : k < l.length) (h : bareN (l.getD k 0).toNat = false) : isBareW l = false := by
  unfold isBareW
  refine decide_eq_false (fun h2 => ?_)
  have := h2.2 l[k] (List.getElem_mem hk)
  have e : l.getD k 0 = l[k] := by simp [List.getD, hk]
  rw [e, this] at h
  cases h

set_option maxHeartbeats 800000 in
set_option maxRecDepth 1000000 in
theorem isBareWord_any {l : List UInt8} {w : World} (hl : l.length ≤ 140737488355328) : Calls Tryz.prog 178 #[.string ⟨l.toArray⟩] w fun e w' => e = .returned (.bool (isBareW l)) ∧ w' = w := by
  have hz : (⟨l.toArray⟩ : ByteArray).size = l.length := by simp [ByteArray.size]
  have IX : Hid (∀ k, k < l.length → ∀ W, (Instr.index 9 (.string ⟨l.toArray⟩) (.int .i64 (k : Int))).run Tryz.prog W = .ok (.int .u8 ((l.getD k 0).toNat : Int)) W) := fun k hk W => idx_at hk W
  have EM : Hid ((!(⟨l.toArray⟩ : ByteArray).toList.isEmpty) = decide (l ≠ [])) := hid <| by
    rw [Lib.toList_data]
    cases l <;> simp
  generalize ByteArray.mk l.toArray = S at *
  generalize hn : l.length = n at *
  have HN := hid hn
  clear hn
  go_enter Tryz.func178, Tryz.ntmps178
  go_wp2
  go_loopw [6] (fun iv wr => ∃ k : Nat, k ≤ n ∧ iv = .int .i64 (k : Int) ∧ Hid (∀ j, j < k → bareN (l.getD j 0).toNat = true) ∧ wr = w) (fun iv _ => n - (intOf iv).toNat)
  case atStart => exact ⟨0, by omega, rfl, fun j hj => by omega, rfl⟩
  case round =>
    obtain ⟨k, hk, rfl, hall, rfl⟩ := hrel
    by_cases hlt : k < n
    · have ix := IX.out k hlt
      have hlt' : (k : Int) < (n : Int) := by omega
      generalize hb : l.getD k 0 = b at ix
      have HB := hid hb
      clear hb
      cases hx : bareN b.toNat with
      | true =>
        go_wp2_with (go_at_call 158; refine (isBare_any b _).mono ?_; rintro e w1 ⟨rfl, rfl⟩; rw [hx])
        go_roundw
        case rel => exact ⟨k + 1, by omega, by go_num, fun j hj => by
            by_cases hjk : j < k
            · exact hall.out j hjk
            · have : j = k := by omega
              subst this
              rw [HB.out]; exact hx, trivial⟩
        case measure => simp [intOf]; omega
      | false =>
        have fin : Hid (isBareW l = false) := isBareW_no (k := k) (by rw [HN.out]; exact hlt) (by rw [HB.out]; exact hx)
        go_wp2_with (go_at_call 158; refine (isBare_any b _).mono ?_; rintro e w1 ⟨rfl, rfl⟩; rw [hx])
        go_ret
        exact ⟨by rw [fin.out]; rfl, rfl⟩
    · have fin : Hid (isBareW l = decide (l ≠ [])) := isBareW_of (fun j hj => hall.out j (by have := HN.out; omega))
      have hlt' : ¬ (k : Int) < (n : Int) := by omega
      go_wp2
      go_ret
      exact ⟨by rw [fin.out, ← EM.out]; rfl, rfl⟩
set_option maxHeartbeats 800000 in
set_option maxRecDepth 1000000 in
theorem risBare_any {l : List UInt8} {w : World} (hl : l.length ≤ 140737488355328) : Calls Tryz.prog 150 #[.string ⟨l.toArray⟩] w fun e w' => e = .returned (.bool (isBareW l)) ∧ w' = w := by
  have hz : (⟨l.toArray⟩ : ByteArray).size = l.length := by simp [ByteArray.size]
  have IX : Hid (∀ k, k < l.length → ∀ W, (Instr.index 9 (.string ⟨l.toArray⟩) (.int .i64 (k : Int))).run Tryz.prog W = .ok (.int .u8 ((l.getD k 0).toNat : Int)) W) := fun k hk W => idx_at hk W
  have EM : Hid (decide (0 < l.length) = decide (l ≠ [])) := hid <| by
    cases l <;> simp
  generalize ByteArray.mk l.toArray = S at *
  generalize hn : l.length = n at *
  have HN := hid hn
  clear hn
  go_enter Tryz.func150, Tryz.ntmps150
  go_wp2
  go_loopw [3] (fun iv wr => ∃ k : Nat, k ≤ n ∧ iv = .int .i64 (k : Int) ∧ Hid (∀ j, j < k → bareN (l.getD j 0).toNat = true) ∧ wr = w) (fun iv _ => n - (intOf iv).toNat)
  case atStart => exact ⟨0, by omega, rfl, fun j hj => by omega, rfl⟩
  case round =>
    obtain ⟨k, hk, rfl, hall, rfl⟩ := hrel
    by_cases hlt : k < n
    · have ix := IX.out k hlt
      have hlt' : (k : Int) < (n : Int) := by omega
      generalize hb : l.getD k 0 = b at ix
      have HB := hid hb
      clear hb
      cases hx : bareN b.toNat with
      | true =>
        go_wp2_with (go_at_call 136; refine (rbare_any b _).mono ?_; rintro e w1 ⟨rfl, rfl⟩; rw [hx])
        go_roundw
        case rel => exact ⟨k + 1, by omega, by go_num, fun j hj => by
            by_cases hjk : j < k
            · exact hall.out j hjk
            · have : j = k := by omega
              subst this
              rw [HB.out]; exact hx, trivial⟩
        case measure => simp [intOf]; omega
      | false =>
        have fin : Hid (isBareW l = false) := isBareW_no (k := k) (by rw [HN.out]; exact hlt) (by rw [HB.out]; exact hx)
        go_wp2_with (go_at_call 136; refine (rbare_any b _).mono ?_; rintro e w1 ⟨rfl, rfl⟩; rw [hx])
        go_ret
        exact ⟨by rw [fin.out]; rfl, rfl⟩
    · have fin : Hid (isBareW l = decide (l ≠ [])) := isBareW_of (fun j hj => hall.out j (by have := HN.out; omega))
      have hlt' : ¬ (k : Int) < (n : Int) := by omega
      go_wp2
      go_ret
      exact ⟨by rw [fin.out, ← EM.out]; rfl, rfl⟩
end Go.Proofs.YtdhkdniddjnigaaGreatDoor

import Derived.Test.YtfeppannfcbakaaGreatDoorJ18
namespace Go.Proofs.YtfeppannfcbakaaGreatDoor
open Go.RowKit
set_option linter.unusedVariables false
set_option maxRecDepth 100000

/-- The document's words of kinds and of statuses. -/
def wordN (k : Int) : List UInt8 := if k < 1 ∨ 11 < k then [] else kdN.getD k.toNat []
def statN (k : Int) : List UInt8 := if k < 1 ∨ 3 < k then [] else stN.getD k.toNat []
set_option maxHeartbeats 3200000 in
set_option maxRecDepth 1000000 in
theorem word_any (k : Int) (w : World) : Calls Tryz.prog 60 #[.int .i64 k] w fun e w' => e = .returned (.string ⟨(wordN k).toArray⟩) ∧ Below w.heap.size w w' := by
  have hb := heap_alloc_new w (.cells #[.string ⟨#[114, 101, 102, 117, 115, 101, 100]⟩, .string ⟨#[115, 117, 98, 109, 105, 116, 116, 101, 100]⟩, .string ⟨#[97, 115, 107, 101, 100]⟩, .string ⟨#[97, 110, 115, 119, 101, 114, 101, 100]⟩, .string ⟨#[116, 111, 108, 100]⟩, .string ⟨#[114, 97, 110]⟩, .string ⟨#[115, 116, 97, 110, 100, 115]⟩, .string ⟨#[108, 111, 115, 116]⟩, .string ⟨#[100, 111, 119, 110]⟩, .string ⟨#[117, 112]⟩, .string ⟨#[115, 104, 101, 101, 116]⟩] 9)
  have bw := hid (ba w (.cells #[.string ⟨#[114, 101, 102, 117, 115, 101, 100]⟩, .string ⟨#[115, 117, 98, 109, 105, 116, 116, 101, 100]⟩, .string ⟨#[97, 115, 107, 101, 100]⟩, .string ⟨#[97, 110, 115, 119, 101, 114, 101, 100]⟩, .string ⟨#[116, 111, 108, 100]⟩, .string ⟨#[114, 97, 110]⟩, .string ⟨#[115, 116, 97, 110, 100, 115]⟩, .string ⟨#[108, 111, 115, 116]⟩, .string ⟨#[100, 111, 119, 110]⟩, .string ⟨#[117, 112]⟩, .string ⟨#[115, 104, 101, 101, 116]⟩] 9))
  by_cases h1 : k < 1
  · have e1 : wordN k = [] := by unfold wordN; rw [if_pos (Or.inl h1)]
    rw [e1]
    clear e1 hb
    go_enter Tryz.func60, Tryz.ntmps60
    go_wp2
    go_ret
    exact ⟨rfl, bw.out⟩
  · by_cases h2 : 11 < k
    · have e1 : wordN k = [] := by unfold wordN; rw [if_pos (Or.inr h2)]
      rw [e1]
      clear e1 hb
      go_enter Tryz.func60, Tryz.ntmps60
      go_wp2
      go_ret
      exact ⟨rfl, bw.out⟩
    · obtain rfl | rfl | rfl | rfl | rfl | rfl | rfl | rfl | rfl | rfl | rfl : k = 1 ∨ k = 2 ∨ k = 3 ∨ k = 4 ∨ k = 5 ∨ k = 6 ∨ k = 7 ∨ k = 8 ∨ k = 9 ∨ k = 10 ∨ k = 11 := by omega
      · clear h1 h2
        have cc : (w.alloc (.cells #[.string ⟨#[114, 101, 102, 117, 115, 101, 100]⟩, .string ⟨#[115, 117, 98, 109, 105, 116, 116, 101, 100]⟩, .string ⟨#[97, 115, 107, 101, 100]⟩, .string ⟨#[97, 110, 115, 119, 101, 114, 101, 100]⟩, .string ⟨#[116, 111, 108, 100]⟩, .string ⟨#[114, 97, 110]⟩, .string ⟨#[115, 116, 97, 110, 100, 115]⟩, .string ⟨#[108, 111, 115, 116]⟩, .string ⟨#[100, 111, 119, 110]⟩, .string ⟨#[117, 112]⟩, .string ⟨#[115, 104, 101, 101, 116]⟩] 9)).cell? ⟨w.heap.size, 0, none⟩ = some (.string ⟨#[114, 101, 102, 117, 115, 101, 100]⟩) := by rw [cell_at hb]; rfl
        clear hb
        go_enter Tryz.func60, Tryz.ntmps60
        go_wp2
        go_ret
        exact ⟨rfl, bw.out⟩
      · clear h1 h2
        have cc : (w.alloc (.cells #[.string ⟨#[114, 101, 102, 117, 115, 101, 100]⟩, .string ⟨#[115, 117, 98, 109, 105, 116, 116, 101, 100]⟩, .string ⟨#[97, 115, 107, 101, 100]⟩, .string ⟨#[97, 110, 115, 119, 101, 114, 101, 100]⟩, .string ⟨#[116, 111, 108, 100]⟩, .string ⟨#[114, 97, 110]⟩, .string ⟨#[115, 116, 97, 110, 100, 115]⟩, .string ⟨#[108, 111, 115, 116]⟩, .string ⟨#[100, 111, 119, 110]⟩, .string ⟨#[117, 112]⟩, .string ⟨#[115, 104, 101, 101, 116]⟩] 9)).cell? ⟨w.heap.size, 1, none⟩ = some (.string ⟨#[115, 117, 98, 109, 105, 116, 116, 101, 100]⟩) := by rw [cell_at hb]; rfl
        clear hb
        go_enter Tryz.func60, Tryz.ntmps60
        go_wp2
        go_ret
        exact ⟨rfl, bw.out⟩
      · clear h1 h2
        have cc : (w.alloc (.cells #[.string ⟨#[114, 101, 102, 117, 115, 101, 100]⟩, .string ⟨#[115, 117, 98, 109, 105, 116, 116, 101, 100]⟩, .string ⟨#[97, 115, 107, 101, 100]⟩, .string ⟨#[97, 110, 115, 119, 101, 114, 101, 100]⟩, .string ⟨#[116, 111, 108, 100]⟩, .string ⟨#[114, 97, 110]⟩, .string ⟨#[115, 116, 97, 110, 100, 115]⟩, .string ⟨#[108, 111, 115, 116]⟩, .string ⟨#[100, 111, 119, 110]⟩, .string ⟨#[117, 112]⟩, .string ⟨#[115, 104, 101, 101, 116]⟩] 9)).cell? ⟨w.heap.size, 2, none⟩ = some (.string ⟨#[97, 115, 107, 101, 100]⟩) := by rw [cell_at hb]; rfl
        clear hb
        go_enter Tryz.func60, Tryz.ntmps60
        go_wp2
        go_ret
        exact ⟨rfl, bw.out⟩
      · clear h1 h2
        have cc : (w.alloc (.cells #[.string ⟨#[114, 101, 102, 117, 115, 101, 100]⟩, .string ⟨#[115, 117, 98, 109, 105, 116, 116, 101, 100]⟩, .string ⟨#[97, 115, 107, 101, 100]⟩, .string ⟨#[97, 110, 115, 119, 101, 114, 101, 100]⟩, .string ⟨#[116, 111, 108, 100]⟩, .string ⟨#[114, 97, 110]⟩, .string ⟨#[115, 116, 97, 110, 100, 115]⟩, .string ⟨#[108, 111, 115, 116]⟩, .string ⟨#[100, 111, 119, 110]⟩, .string ⟨#[117, 112]⟩, .string ⟨#[115, 104, 101, 101, 116]⟩] 9)).cell? ⟨w.heap.size, 3, none⟩ = some (.string ⟨#[97, 110, 115, 119, 101, 114, 101, 100]⟩) := by rw [cell_at hb]; rfl
        clear hb
        go_enter Tryz.func60, Tryz.ntmps60
        go_wp2
        go_ret
        exact ⟨rfl, bw.out⟩
      · clear h1 h2
        have cc : (w.alloc (.cells #[.string ⟨#[114, 101, 102, 117, 115, 101, 100]⟩, .string ⟨#[115, 117, 98, 109, 105, 116, 116, 101, 100]⟩, .string ⟨#[97, 115, 107, 101, 100]⟩, .string ⟨#[97, 110, 115, 119, 101, 114, 101, 100]⟩, .string ⟨#[116, 111, 108, 100]⟩, .string ⟨#[114, 97, 110]⟩, .string ⟨#[115, 116, 97, 110, 100, 115]⟩, .string ⟨#[108, 111, 115, 116]⟩, .string ⟨#[100, 111, 119, 110]⟩, .string ⟨#[117, 112]⟩, .string ⟨#[115, 104, 101, 101, 116]⟩] 9)).cell? ⟨w.heap.size, 4, none⟩ = some (.string ⟨#[116, 111, 108, 100]⟩) := by rw [cell_at hb]; rfl
        clear hb
        go_enter Tryz.func60, Tryz.ntmps60
        go_wp2
        go_ret
        exact ⟨rfl, bw.out⟩
      · clear h1 h2
        have cc : (w.alloc (.cells #[.string ⟨#[114, 101, 102, 117, 115, 101, 100]⟩, .string ⟨#[115, 117, 98, 109, 105, 116, 116, 101, 100]⟩, .string ⟨#[97, 115, 107, 101, 100]⟩, .string ⟨#[97, 110, 115, 119, 101, 114, 101, 100]⟩, .string ⟨#[116, 111, 108, 100]⟩, .string ⟨#[114, 97, 110]⟩, .string ⟨#[115, 116, 97, 110, 100, 115]⟩, .string ⟨#[108, 111, 115, 116]⟩, .string ⟨#[100, 111, 119, 110]⟩, .string ⟨#[117, 112]⟩, .string ⟨#[115, 104, 101, 101, 116]⟩] 9)).cell? ⟨w.heap.size, 5, none⟩ = some (.string ⟨#[114, 97, 110]⟩) := by rw [cell_at hb]; rfl
        clear hb
        go_enter Tryz.func60, Tryz.ntmps60
        go_wp2
        go_ret
        exact ⟨rfl, bw.out⟩
      · clear h1 h2
        have cc : (w.alloc (.cells #[.string ⟨#[114, 101, 102, 117, 115, 101, 100]⟩, .string ⟨#[115, 117, 98, 109, 105, 116, 116, 101, 100]⟩, .string ⟨#[97, 115, 107, 101, 100]⟩, .string ⟨#[97, 110, 115, 119, 101, 114, 101, 100]⟩, .string ⟨#[116, 111, 108, 100]⟩, .string ⟨#[114, 97, 110]⟩, .string ⟨#[115, 116, 97, 110, 100, 115]⟩, .string ⟨#[108, 111, 115, 116]⟩, .string ⟨#[100, 111, 119, 110]⟩, .string ⟨#[117, 112]⟩, .string ⟨#[115, 104, 101, 101, 116]⟩] 9)).cell? ⟨w.heap.size, 6, none⟩ = some (.string ⟨#[115, 116, 97, 110, 100, 115]⟩) := by rw [cell_at hb]; rfl
        clear hb
        go_enter Tryz.func60, Tryz.ntmps60
        go_wp2
        go_ret
        exact ⟨rfl, bw.out⟩
      · clear h1 h2
        have cc : (w.alloc (.cells #[.string ⟨#[114, 101, 102, 117, 115, 101, 100]⟩, .string ⟨#[115, 117, 98, 109, 105, 116, 116, 101, 100]⟩, .string ⟨#[97, 115, 107, 101, 100]⟩, .string ⟨#[97, 110, 115, 119, 101, 114, 101, 100]⟩, .string ⟨#[116, 111, 108, 100]⟩, .string ⟨#[114, 97, 110]⟩, .string ⟨#[115, 116, 97, 110, 100, 115]⟩, .string ⟨#[108, 111, 115, 116]⟩, .string ⟨#[100, 111, 119, 110]⟩, .string ⟨#[117, 112]⟩, .string ⟨#[115, 104, 101, 101, 116]⟩] 9)).cell? ⟨w.heap.size, 7, none⟩ = some (.string ⟨#[108, 111, 115, 116]⟩) := by rw [cell_at hb]; rfl
        clear hb
        go_enter Tryz.func60, Tryz.ntmps60
        go_wp2
        go_ret
        exact ⟨rfl, bw.out⟩
      · clear h1 h2
        have cc : (w.alloc (.cells #[.string ⟨#[114, 101, 102, 117, 115, 101, 100]⟩, .string ⟨#[115, 117, 98, 109, 105, 116, 116, 101, 100]⟩, .string ⟨#[97, 115, 107, 101, 100]⟩, .string ⟨#[97, 110, 115, 119, 101, 114, 101, 100]⟩, .string ⟨#[116, 111, 108, 100]⟩, .string ⟨#[114, 97, 110]⟩, .string ⟨#[115, 116, 97, 110, 100, 115]⟩, .string ⟨#[108, 111, 115, 116]⟩, .string ⟨#[100, 111, 119, 110]⟩, .string ⟨#[117, 112]⟩, .string ⟨#[115, 104, 101, 101, 116]⟩] 9)).cell? ⟨w.heap.size, 8, none⟩ = some (.string ⟨#[100, 111, 119, 110]⟩) := by rw [cell_at hb]; rfl
        clear hb
        go_enter Tryz.func60, Tryz.ntmps60
        go_wp2
        go_ret
        exact ⟨rfl, bw.out⟩
      · clear h1 h2
        have cc : (w.alloc (.cells #[.string ⟨#[114, 101, 102, 117, 115, 101, 100]⟩, .string ⟨#[115, 117, 98, 109, 105, 116, 116, 101, 100]⟩, .string ⟨#[97, 115, 107, 101, 100]⟩, .string ⟨#[97, 110, 115, 119, 101, 114, 101, 100]⟩, .string ⟨#[116, 111, 108, 100]⟩, .string ⟨#[114, 97, 110]⟩, .string ⟨#[115, 116, 97, 110, 100, 115]⟩, .string ⟨#[108, 111, 115, 116]⟩, .string ⟨#[100, 111, 119, 110]⟩, .string ⟨#[117, 112]⟩, .string ⟨#[115, 104, 101, 101, 116]⟩] 9)).cell? ⟨w.heap.size, 9, none⟩ = some (.string ⟨#[117, 112]⟩) := by rw [cell_at hb]; rfl
        clear hb
        go_enter Tryz.func60, Tryz.ntmps60
        go_wp2
        go_ret
        exact ⟨rfl, bw.out⟩
      · clear h1 h2
        have cc : (w.alloc (.cells #[.string ⟨#[114, 101, 102, 117, 115, 101, 100]⟩, .string ⟨#[115, 117, 98, 109, 105, 116, 116, 101, 100]⟩, .string ⟨#[97, 115, 107, 101, 100]⟩, .string ⟨#[97, 110, 115, 119, 101, 114, 101, 100]⟩, .string ⟨#[116, 111, 108, 100]⟩, .string ⟨#[114, 97, 110]⟩, .string ⟨#[115, 116, 97, 110, 100, 115]⟩, .string ⟨#[108, 111, 115, 116]⟩, .string ⟨#[100, 111, 119, 110]⟩, .string ⟨#[117, 112]⟩, .string ⟨#[115, 104, 101, 101, 116]⟩] 9)).cell? ⟨w.heap.size, 10, none⟩ = some (.string ⟨#[115, 104, 101, 101, 116]⟩) := by rw [cell_at hb]; rfl
        clear hb
        go_enter Tryz.func60, Tryz.ntmps60
        go_wp2
        go_ret
        exact ⟨rfl, bw.out⟩
set_option maxHeartbeats 3200000 in
set_option maxRecDepth 1000000 in
theorem status_any (k : Int) (w : World) : Calls Tryz.prog 97 #[.int .i64 k] w fun e w' => e = .returned (.string ⟨(statN k).toArray⟩) ∧ Below w.heap.size w w' := by
  have hb := heap_alloc_new w (.cells #[.string ⟨#[110, 111, 114, 109, 97, 108]⟩, .string ⟨#[99, 104, 97, 110, 103, 101]⟩, .string ⟨#[114, 101, 99, 111, 118, 101, 114, 105, 110, 103]⟩] 9)
  have bw := hid (ba w (.cells #[.string ⟨#[110, 111, 114, 109, 97, 108]⟩, .string ⟨#[99, 104, 97, 110, 103, 101]⟩, .string ⟨#[114, 101, 99, 111, 118, 101, 114, 105, 110, 103]⟩] 9))
  by_cases h1 : k < 1
  · have e1 : statN k = [] := by unfold statN; rw [if_pos (Or.inl h1)]
    rw [e1]
    clear e1 hb
    go_enter Tryz.func97, Tryz.ntmps97
    go_wp2
    go_ret
    exact ⟨rfl, bw.out⟩
  · by_cases h2 : 3 < k
    · have e1 : statN k = [] := by unfold statN; rw [if_pos (Or.inr h2)]
      rw [e1]
      clear e1 hb
      go_enter Tryz.func97, Tryz.ntmps97
      go_wp2
      go_ret
      exact ⟨rfl, bw.out⟩
    · obtain rfl | rfl | rfl : k = 1 ∨ k = 2 ∨ k = 3 := by omega
      · clear h1 h2
        have cc : (w.alloc (.cells #[.string ⟨#[110, 111, 114, 109, 97, 108]⟩, .string ⟨#[99, 104, 97, 110, 103, 101]⟩, .string ⟨#[114, 101, 99, 111, 118, 101, 114, 105, 110, 103]⟩] 9)).cell? ⟨w.heap.size, 0, none⟩ = some (.string ⟨#[110, 111, 114, 109, 97, 108]⟩) := by rw [cell_at hb]; rfl
        clear hb
        go_enter Tryz.func97, Tryz.ntmps97
        go_wp2
        go_ret
        exact ⟨rfl, bw.out⟩
      · clear h1 h2
        have cc : (w.alloc (.cells #[.string ⟨#[110, 111, 114, 109, 97, 108]⟩, .string ⟨#[99, 104, 97, 110, 103, 101]⟩, .string ⟨#[114, 101, 99, 111, 118, 101, 114, 105, 110, 103]⟩] 9)).cell? ⟨w.heap.size, 1, none⟩ = some (.string ⟨#[99, 104, 97, 110, 103, 101]⟩) := by rw [cell_at hb]; rfl
        clear hb
        go_enter Tryz.func97, Tryz.ntmps97
        go_wp2
        go_ret
        exact ⟨rfl, bw.out⟩
      · clear h1 h2
        have cc : (w.alloc (.cells #[.string ⟨#[110, 111, 114, 109, 97, 108]⟩, .string ⟨#[99, 104, 97, 110, 103, 101]⟩, .string ⟨#[114, 101, 99, 111, 118, 101, 114, 105, 110, 103]⟩] 9)).cell? ⟨w.heap.size, 2, none⟩ = some (.string ⟨#[114, 101, 99, 111, 118, 101, 114, 105, 110, 103]⟩) := by rw [cell_at hb]; rfl
        clear hb
        go_enter Tryz.func97, Tryz.ntmps97
        go_wp2
        go_ret
        exact ⟨rfl, bw.out⟩
end Go.Proofs.YtfeppannfcbakaaGreatDoor

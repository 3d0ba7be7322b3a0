import Derived.Test.YtfeppannfcbakaaGreatDoorJ10
import Derived.Test.YtfeppannfcbakaaGreatDoorJ11
import Derived.Test.YtfeppannfcbakaaGreatDoorJ12
import Derived.Test.YtfeppannfcbakaaGreatDoorJ9
namespace Go.Proofs.YtfeppannfcbakaaGreatDoor
open Go.RowKit
set_option linter.unusedVariables false
set_option maxRecDepth 1000000
set_option maxHeartbeats 3200000
def wordN (k : Int) : List UInt8 := if k < 1 ∨ 11 < k then [] else kdN.getD k.toNat []
def statN (k : Int) : List UInt8 := if k < 1 ∨ 3 < k then [] else stN.getD k.toNat []
theorem word_any (k : Int) (w : World) : Calls Tryz.prog 60 #[.int .i64 k] w fun e w' => e = .returned (.string ⟨(wordN k).toArray⟩) ∧ Below w.heap.size w w' := by
 have hb := heap_alloc_new w (.cells #[.string ⟨#[114, 101, 102, 117, 115, 101, 100]⟩, .string ⟨#[115, 117, 98, 109, 105, 116, 116, 101, 100]⟩, .string ⟨#[97, 115, 107, 101, 100]⟩, .string ⟨#[97, 110, 115, 119, 101, 114, 101, 100]⟩, .string ⟨#[116, 111, 108, 100]⟩, .string ⟨#[114, 97, 110]⟩, .string ⟨#[115, 116, 97, 110, 100, 115]⟩, .string ⟨#[108, 111, 115, 116]⟩, .string ⟨#[100, 111, 119, 110]⟩, .string ⟨#[117, 112]⟩, .string ⟨#[115, 104, 101, 101, 116]⟩] 9)
 have bw := hid (ba w (.cells #[.string ⟨#[114, 101, 102, 117, 115, 101, 100]⟩, .string ⟨#[115, 117, 98, 109, 105, 116, 116, 101, 100]⟩, .string ⟨#[97, 115, 107, 101, 100]⟩, .string ⟨#[97, 110, 115, 119, 101, 114, 101, 100]⟩, .string ⟨#[116, 111, 108, 100]⟩, .string ⟨#[114, 97, 110]⟩, .string ⟨#[115, 116, 97, 110, 100, 115]⟩, .string ⟨#[108, 111, 115, 116]⟩, .string ⟨#[100, 111, 119, 110]⟩, .string ⟨#[117, 112]⟩, .string ⟨#[115, 104, 101, 101, 116]⟩] 9))
 by_cases h1 : k < 1
 · have e1 : wordN k = [] := by unfold wordN; rw [if_pos (Or.inl h1)]
   rw [e1]
   clear e1 hb
   go_enter Tryz.func60, Tryz.ntmps60
   go_wp2
   go_ret
   exact ⟨rfl, bw.out⟩
 · by_cases h2 : 11 < k
   · have e1 : wordN k = [] := by unfold wordN; rw [if_pos (Or.inr h2)]
     rw [e1]
     clear e1 hb
     go_enter Tryz.func60, Tryz.ntmps60
     go_wp2
     go_ret
     exact ⟨rfl, bw.out⟩
   · obtain rfl | rfl | rfl | rfl | rfl | rfl | rfl | rfl | rfl | rfl | rfl : k = 1 ∨ k = 2 ∨ k = 3 ∨ k = 4 ∨ k = 5 ∨ k = 6 ∨ k = 7 ∨ k = 8 ∨ k = 9 ∨ k = 10 ∨ k = 11 := by omega
     · clear h1 h2
       have cc : (w.alloc (.cells #[.string ⟨#[114, 101, 102, 117, 115, 101, 100]⟩, .string ⟨#[115, 117, 98, 109, 105, 116, 116, 101, 100]⟩, .string ⟨#[97, 115, 107, 101, 100]⟩, .string ⟨#[97, 110, 115, 119, 101, 114, 101, 100]⟩, .string ⟨#[116, 111, 108, 100]⟩, .string ⟨#[114, 97, 110]⟩, .string ⟨#[115, 116, 97, 110, 100, 115]⟩, .string ⟨#[108, 111, 115, 116]⟩, .string ⟨#[100, 111, 119, 110]⟩, .string ⟨#[117, 112]⟩, .string ⟨#[115, 104, 101, 101, 116]⟩] 9)).cell? ⟨w.heap.size, 0, none⟩ = some (.string ⟨#[114, 101, 102, 117, 115, 101, 100]⟩) := by rw [cell_at hb]; rfl
       clear hb
       go_enter Tryz.func60, Tryz.ntmps60
       go_wp2
       go_ret
       exact ⟨rfl, bw.out⟩
     · clear h1 h2
       have cc : (w.alloc (.cells #[.string ⟨#[114, 101, 102, 117, 115, 101, 100]⟩, .string ⟨#[115, 117, 98, 109, 105, 116, 116, 101, 100]⟩, .string ⟨#[97, 115, 107, 101, 100]⟩, .string ⟨#[97, 110, 115, 119, 101, 114, 101, 100]⟩, .string ⟨#[116, 111, 108, 100]⟩, .string ⟨#[114, 97, 110]⟩, .string ⟨#[115, 116, 97, 110, 100, 115]⟩, .string ⟨#[108, 111, 115, 116]⟩, .string ⟨#[100, 111, 119, 110]⟩, .string ⟨#[117, 112]⟩, .string ⟨#[115, 104, 101, 101, 116]⟩] 9)).cell? ⟨w.heap.size, 1, none⟩ = some (.string ⟨#[115, 117, 98, 109, 105, 116, 116, 101, 100]⟩) := by rw [cell_at hb]; rfl
       clear hb
       go_enter Tryz.func60, Tryz.ntmps60
       go_wp2
       go_ret
       exact ⟨rfl, bw.out⟩
     · clear h1 h2
       have cc : (w.alloc (.cells #[.string ⟨#[114, 101, 102, 117, 115, 101, 100]⟩, .string ⟨#[115, 117, 98, 109, 105, 116, 116, 101, 100]⟩, .string ⟨#[97, 115, 107, 101, 100]⟩, .string ⟨#[97, 110, 115, 119, 101, 114, 101, 100]⟩, .string ⟨#[116, 111, 108, 100]⟩, .string ⟨#[114, 97, 110]⟩, .string ⟨#[115, 116, 97, 110, 100, 115]⟩, .string ⟨#[108, 111, 115, 116]⟩, .string ⟨#[100, 111, 119, 110]⟩, .string ⟨#[117, 112]⟩, .string ⟨#[115, 104, 101, 101, 116]⟩] 9)).cell? ⟨w.heap.size, 2, none⟩ = some (.string ⟨#[97, 115, 107, 101, 100]⟩) := by rw [cell_at hb]; rfl
       clear hb
       go_enter Tryz.func60, Tryz.ntmps60
       go_wp2
       go_ret
       exact ⟨rfl, bw.out⟩
     · clear h1 h2
       have cc : (w.alloc (.cells #[.string ⟨#[114, 101, 102, 117, 115, 101, 100]⟩, .string ⟨#[115, 117, 98, 109, 105, 116, 116, 101, 100]⟩, .string ⟨#[97, 115, 107, 101, 100]⟩, .string ⟨#[97, 110, 115, 119, 101, 114, 101, 100]⟩, .string ⟨#[116, 111, 108, 100]⟩, .string ⟨#[114, 97, 110]⟩, .string ⟨#[115, 116, 97, 110, 100, 115]⟩, .string ⟨#[108, 111, 115, 116]⟩, .string ⟨#[100, 111, 119, 110]⟩, .string ⟨#[117, 112]⟩, .string ⟨#[115, 104, 101, 101, 116]⟩] 9)).cell? ⟨w.heap.size, 3, none⟩ = some (.string ⟨#[97, 110, 115, 119, 101, 114, 101, 100]⟩) := by rw [cell_at hb]; rfl
       clear hb
       go_enter Tryz.func60, Tryz.ntmps60
       go_wp2
       go_ret
       exact ⟨rfl, bw.out⟩
     · clear h1 h2
       have cc : (w.alloc (.cells #[.string ⟨#[114, 101, 102, 117, 115, 101, 100]⟩, .string ⟨#[115, 117, 98, 109, 105, 116, 116, 101, 100]⟩, .string ⟨#[97, 115, 107, 101, 100]⟩, .string ⟨#[97, 110, 115, 119, 101, 114, 101, 100]⟩, .string ⟨#[116, 111, 108, 100]⟩, .string ⟨#[114, 97, 110]⟩, .string ⟨#[115, 116, 97, 110, 100, 115]⟩, .string ⟨#[108, 111, 115, 116]⟩, .string ⟨#[100, 111, 119, 110]⟩, .string ⟨#[117, 112]⟩, .string ⟨#[115, 104, 101, 101, 116]⟩] 9)).cell? ⟨w.heap.size, 4, none⟩ = some (.string ⟨#[116, 111, 108, 100]⟩) := by rw [cell_at hb]; rfl
       clear hb
       go_enter Tryz.func60, Tryz.ntmps60
       go_wp2
       go_ret
       exact ⟨rfl, bw.out⟩
     · clear h1 h2
       have cc : (w.alloc (.cells #[.string ⟨#[114, 101, 102, 117, 115, 101, 100]⟩, .string ⟨#[115, 117, 98, 109, 105, 116, 116, 101, 100]⟩, .string ⟨#[97, 115, 107, 101, 100]⟩, .string ⟨#[97, 110, 115, 119, 101, 114, 101, 100]⟩, .string ⟨#[116, 111, 108, 100]⟩, .string ⟨#[114, 97, 110]⟩, .string ⟨#[115, 116, 97, 110, 100, 115]⟩, .string ⟨#[108, 111, 115, 116]⟩, .string ⟨#[100, 111, 119, 110]⟩, .string ⟨#[117, 112]⟩, .string ⟨#[115, 104, 101, 101, 116]⟩] 9)).cell? ⟨w.heap.size, 5, none⟩ = some (.string ⟨#[114, 97, 110]⟩) := by rw [cell_at hb]; rfl
       clear hb
       go_enter Tryz.func60, Tryz.ntmps60
       go_wp2
       go_ret
       exact ⟨rfl, bw.out⟩
     · clear h1 h2
       have cc : (w.alloc (.cells #[.string ⟨#[114, 101, 102, 117, 115, 101, 100]⟩, .string ⟨#[115, 117, 98, 109, 105, 116, 116, 101, 100]⟩, .string ⟨#[97, 115, 107, 101, 100]⟩, .string ⟨#[97, 110, 115, 119, 101, 114, 101, 100]⟩, .string ⟨#[116, 111, 108, 100]⟩, .string ⟨#[114, 97, 110]⟩, .string ⟨#[115, 116, 97, 110, 100, 115]⟩, .string ⟨#[108, 111, 115, 116]⟩, .string ⟨#[100, 111, 119, 110]⟩, .string ⟨#[117, 112]⟩, .string ⟨#[115, 104, 101, 101, 116]⟩] 9)).cell? ⟨w.heap.size, 6, none⟩ = some (.string ⟨#[115, 116, 97, 110, 100, 115]⟩) := by rw [cell_at hb]; rfl
       clear hb
       go_enter Tryz.func60, Tryz.ntmps60
       go_wp2
       go_ret
       exact ⟨rfl, bw.out⟩
     · clear h1 h2
       have cc : (w.alloc (.cells #[.string ⟨#[114, 101, 102, 117, 115, 101, 100]⟩, .string ⟨#[115, 117, 98, 109, 105, 116, 116, 101, 100]⟩, .string ⟨#[97, 115, 107, 101, 100]⟩, .string ⟨#[97, 110, 115, 119, 101, 114, 101, 100]⟩, .string ⟨#[116, 111, 108, 100]⟩, .string ⟨#[114, 97, 110]⟩, .string ⟨#[115, 116, 97, 110, 100, 115]⟩, .string ⟨#[108, 111, 115, 116]⟩, .string ⟨#[100, 111, 119, 110]⟩, .string ⟨#[117, 112]⟩, .string ⟨#[115, 104, 101, 101, 116]⟩] 9)).cell? ⟨w.heap.size, 7, none⟩ = some (.string ⟨#[108, 111, 115, 116]⟩) := by rw [cell_at hb]; rfl
       clear hb
       go_enter Tryz.func60, Tryz.ntmps60
       go_wp2
       go_ret
       exact ⟨rfl, bw.out⟩
     · clear h1 h2
       have cc : (w.alloc (.cells #[.string ⟨#[114, 101, 102, 117, 115, 101, 100]⟩, .string ⟨#[115, 117, 98, 109, 105, 116, 116, 101, 100]⟩, .string ⟨#[97, 115, 107, 101, 100]⟩, .string ⟨#[97, 110, 115, 119, 101, 114, 101, 100]⟩, .string ⟨#[116, 111, 108, 100]⟩, .string ⟨#[114, 97, 110]⟩, .string ⟨#[115, 116, 97, 110, 100, 115]⟩, .string ⟨#[108, 111, 115, 116]⟩, .string ⟨#[100, 111, 119, 110]⟩, .string ⟨#[117, 112]⟩, .string ⟨#[115, 104, 101, 101, 116]⟩] 9)).cell? ⟨w.heap.size, 8, none⟩ = some (.string ⟨#[100, 111, 119, 110]⟩) := by rw [cell_at hb]; rfl
       clear hb
       go_enter Tryz.func60, Tryz.ntmps60
       go_wp2
       go_ret
       exact ⟨rfl, bw.out⟩
     · clear h1 h2
       have cc : (w.alloc (.cells #[.string ⟨#[114, 101, 102, 117, 115, 101, 100]⟩, .string ⟨#[115, 117, 98, 109, 105, 116, 116, 101, 100]⟩, .string ⟨#[97, 115, 107, 101, 100]⟩, .string ⟨#[97, 110, 115, 119, 101, 114, 101, 100]⟩, .string ⟨#[116, 111, 108, 100]⟩, .string ⟨#[114, 97, 110]⟩, .string ⟨#[115, 116, 97, 110, 100, 115]⟩, .string ⟨#[108, 111, 115, 116]⟩, .string ⟨#[100, 111, 119, 110]⟩, .string ⟨#[117, 112]⟩, .string ⟨#[115, 104, 101, 101, 116]⟩] 9)).cell? ⟨w.heap.size, 9, none⟩ = some (.string ⟨#[117, 112]⟩) := by rw [cell_at hb]; rfl
       clear hb
       go_enter Tryz.func60, Tryz.ntmps60
       go_wp2
       go_ret
       exact ⟨rfl, bw.out⟩
     · clear h1 h2
       have cc : (w.alloc (.cells #[.string ⟨#[114, 101, 102, 117, 115, 101, 100]⟩, .string ⟨#[115, 117, 98, 109, 105, 116, 116, 101, 100]⟩, .string ⟨#[97, 115, 107, 101, 100]⟩, .string ⟨#[97, 110, 115, 119, 101, 114, 101, 100]⟩, .string ⟨#[116, 111, 108, 100]⟩, .string ⟨#[114, 97, 110]⟩, .string ⟨#[115, 116, 97, 110, 100, 115]⟩, .string ⟨#[108, 111, 115, 116]⟩, .string ⟨#[100, 111, 119, 110]⟩, .string ⟨#[117, 112]⟩, .string ⟨#[115, 104, 101, 101, 116]⟩] 9)).cell? ⟨w.heap.size, 10, none⟩ = some (.string ⟨#[115, 104, 101, 101, 116]⟩) := by rw [cell_at hb]; rfl
       clear hb
       go_enter Tryz.func60, Tryz.ntmps60
       go_wp2
       go_ret
       exact ⟨rfl, bw.out⟩
theorem status_any (k : Int) (w : World) : Calls Tryz.prog 97 #[.int .i64 k] w fun e w' => e = .returned (.string ⟨(statN k).toArray⟩) ∧ Below w.heap.size w w' := by
 have hb := heap_alloc_new w (.cells #[.string ⟨#[110, 111, 114, 109, 97, 108]⟩, .string ⟨#[99, 104, 97, 110, 103, 101]⟩, .string ⟨#[114, 101, 99, 111, 118, 101, 114, 105, 110, 103]⟩] 9)
 have bw := hid (ba w (.cells #[.string ⟨#[110, 111, 114, 109, 97, 108]⟩, .string ⟨#[99, 104, 97, 110, 103, 101]⟩, .string ⟨#[114, 101, 99, 111, 118, 101, 114, 105, 110, 103]⟩] 9))
 by_cases h1 : k < 1
 · have e1 : statN k = [] := by unfold statN; rw [if_pos (Or.inl h1)]
   rw [e1]
   clear e1 hb
   go_enter Tryz.func97, Tryz.ntmps97
   go_wp2
   go_ret
   exact ⟨rfl, bw.out⟩
 · by_cases h2 : 3 < k
   · have e1 : statN k = [] := by unfold statN; rw [if_pos (Or.inr h2)]
     rw [e1]
     clear e1 hb
     go_enter Tryz.func97, Tryz.ntmps97
     go_wp2
     go_ret
     exact ⟨rfl, bw.out⟩
   · obtain rfl | rfl | rfl : k = 1 ∨ k = 2 ∨ k = 3 := by omega
     · clear h1 h2
       have cc : (w.alloc (.cells #[.string ⟨#[110, 111, 114, 109, 97, 108]⟩, .string ⟨#[99, 104, 97, 110, 103, 101]⟩, .string ⟨#[114, 101, 99, 111, 118, 101, 114, 105, 110, 103]⟩] 9)).cell? ⟨w.heap.size, 0, none⟩ = some (.string ⟨#[110, 111, 114, 109, 97, 108]⟩) := by rw [cell_at hb]; rfl
       clear hb
       go_enter Tryz.func97, Tryz.ntmps97
       go_wp2
       go_ret
       exact ⟨rfl, bw.out⟩
     · clear h1 h2
       have cc : (w.alloc (.cells #[.string ⟨#[110, 111, 114, 109, 97, 108]⟩, .string ⟨#[99, 104, 97, 110, 103, 101]⟩, .string ⟨#[114, 101, 99, 111, 118, 101, 114, 105, 110, 103]⟩] 9)).cell? ⟨w.heap.size, 1, none⟩ = some (.string ⟨#[99, 104, 97, 110, 103, 101]⟩) := by rw [cell_at hb]; rfl
       clear hb
       go_enter Tryz.func97, Tryz.ntmps97
       go_wp2
       go_ret
       exact ⟨rfl, bw.out⟩
     · clear h1 h2
       have cc : (w.alloc (.cells #[.string ⟨#[110, 111, 114, 109, 97, 108]⟩, .string ⟨#[99, 104, 97, 110, 103, 101]⟩, .string ⟨#[114, 101, 99, 111, 118, 101, 114, 105, 110, 103]⟩] 9)).cell? ⟨w.heap.size, 2, none⟩ = some (.string ⟨#[114, 101, 99, 111, 118, 101, 114, 105, 110, 103]⟩) := by rw [cell_at hb]; rfl
       clear hb
       go_enter Tryz.func97, Tryz.ntmps97
       go_wp2
       go_ret
       exact ⟨rfl, bw.out⟩
set_option linter.unusedVariables false
set_option maxRecDepth 1000000
set_option maxHeartbeats 6400000
def stI (q : List UInt8) : Int := if q = statN 3 then 3 else if q = statN 2 then 2 else if q = statN 1 then 1 else 0
def stP (q : List UInt8) (i : Nat) : Int := if 3 < i ∧ q = statN 3 then 3 else if 2 < i ∧ q = statN 2 then 2 else if 1 < i ∧ q = statN 1 then 1 else 0
def dLX (l : Ws) (k : Nat) (x : Int) : Int := if stI (dW l k x) = 0 then flE (dX l k x) 190 else dX l k x
theorem ret_lk1 {fn : Func} (hf : fn.results = #[.cell 2 31]) {R : Ending → World → Prop} {a : Act} {w : World} {b : Nat} {EC : List Value} (ht : a.tmps.getD 2 undef = ptr b) (hg : w.heap[b]? = some (.cells EC.toArray 31 (0, 0))) (hs : EC.length = 8) (hd : a.defers = []) (hR : R (.returned (.agg EC.toArray)) w) : bodyPost Tryz.prog fn R .ret a w := by
 refine bodyPost_ret (v := .agg EC.toArray) ?_ hd hR
 have hp : a.tmps[2]?.getD undef = ptr b := by rw [← ht]; simp
 simp [results, hf, hp, asAddr, run_loadVar_row w b 31 31 EC.toArray (0, 0) _ hg Tryz.underlying31 rfl (by rw [List.size_toArray, hs]; kernel_rfl)]
theorem rlook_doc {R : Nat} {s : Value} {l : Ws} {k : Nat} {x : Int} {cs : List Comp} {w : World} (hk : k ≤ l.length) (hl : l.length ≤ 140737488355328) (hs : ∀ y ∈ l, y.length ≤ 140737488355328) (hS : ∀ W, All cs W → Rt W s l) (A : All (rdB R s k x :: cs) w) :
   Calls Tryz.prog 111 #[.pointer (some ⟨R, 0, none⟩)] w fun e w' => ∃ (k1 k2 k3 k4 k5 k6 k7 k8 : Nat) (x1 x2 x3 x4 x5 x6 x7 x8 : Int), k1 = dK l k x ∧ x1 = dNX l k x ∧ k2 = dK l k1 x1 ∧ x2 = dLX l k1 x1 ∧ k3 = dK l k2 x2 ∧ x3 = dNX l k2 x2 ∧ k4 = dK l k3 x3 ∧ x4 = dNX l k3 x3 ∧ k5 = dK l k4 x4 ∧ x5 = dNX l k4 x4 ∧ k6 = dK l k5 x5 ∧ x6 = dNX l k5 x5 ∧ k7 = dK l k6 x6 ∧ x7 = dNX l k6 x6 ∧ k8 = dK l k7 x7 ∧ x8 = dNX l k7 x7 ∧
     e = .returned (.agg #[.int .i64 (dN l k x), .int .i64 (stI (dW l k1 x1)), .int .i64 (dN l k2 x2), .int .i64 (dN l k3 x3), .int .i64 (dN l k4 x4), .int .i64 (dN l k5 x5), .int .i64 (dN l k6 x6), .int .i64 (dN l k7 x7)]) ∧ All (rdB R s k8 x8 :: cs) w' := by
 have NUM : Hid (∀ (k : Nat) (x : Int) (c1 c2 : Comp) W, k ≤ l.length → All (rdB R s k x :: c1 :: c2 :: cs) W → Calls Tryz.prog 108 #[.pointer (some ⟨R, 0, none⟩)] W fun r w' => r = .returned (.int .i64 (dN l k x)) ∧ All (rdB R s (dK l k x) (dNX l k x) :: c1 :: c2 :: cs) w') := hid (fun k x c1 c2 W hk h => rnumber_any hk hl hs (fun V hV => hS V hV.tail.tail) h)
 have WRD : Hid (∀ (k : Nat) (x : Int) (c1 c2 : Comp) W, k ≤ l.length → All (rdB R s k x :: c1 :: c2 :: cs) W → Calls Tryz.prog 107 #[.pointer (some ⟨R, 0, none⟩)] W fun r w' => r = .returned (.string ⟨(dW l k x).toArray⟩) ∧ All (rdB R s (dK l k x) (dX l k x) :: c1 :: c2 :: cs) w') := hid (fun k x c1 c2 W hk h => rword_any hk hl (fun V hV => hS V hV.tail.tail) h)
 have FAI : Hid (∀ (k : Nat) (x : Int) (ds : List Comp) W, All (rdB R s k x :: ds) W → Calls Tryz.prog 75 #[.pointer (some ⟨R, 0, none⟩), .int .i64 190] W fun r w' => r = .returned (.tuple #[]) ∧ All (rdB R s k (flE x 190) :: ds) w') := hid (fun k x ds W h => rfail_any h)
 have A1 := hid (((A.addBlk [.int .i64 0, .int .i64 0, .int .i64 0, .int .i64 0, .int .i64 0, .int .i64 0, .int .i64 0, .int .i64 0] 31).addBlk [.int .i64 0, .int .i64 0, .int .i64 0, .int .i64 0, .int .i64 0, .int .i64 0, .int .i64 0, .int .i64 0] 31).perm (List.perm_middle (l₁ := [_, _])))
 have sz : ∀ (V : World) (o : Obj), (V.alloc o).heap.size = V.heap.size + 1 := fun V o => by simp
 rw [sz] at A1
 have I31 : Hid ((Tryz.prog.info? 31).map (·.size) = some (#[.int .i64 0, .int .i64 0, .int .i64 0, .int .i64 0, .int .i64 0, .int .i64 0, .int .i64 0, .int .i64 0] : Array Value).size) := hid (by kernel_rfl)
 have O31 : Hid ((#[.int .i64 0, .int .i64 0, .int .i64 0, .int .i64 0, .int .i64 0, .int .i64 0, .int .i64 0, .int .i64 0] : Array Value).all (·.oneCell') = true) := hid (by kernel_rfl)
 clear A hS hs sz
 go_enter Tryz.func111, Tryz.ntmps111
 go_upto_region 2 with (refine wpList_store_row rfl 31 _ _ rfl (w.heap.size + 1) #[.int .i64 0, .int .i64 0, .int .i64 0, .int .i64 0, .int .i64 0, .int .i64 0, .int .i64 0, .int .i64 0] rfl rfl 31 _ (by rw [show w.heap.size + 1 = (w.alloc (.cells #[.int .i64 0, .int .i64 0, .int .i64 0, .int .i64 0, .int .i64 0, .int .i64 0, .int .i64 0, .int .i64 0] 31)).heap.size by simp]; exact heap_alloc_new _ _) I31.out rfl O31.out ?_)
 have K0 := hid ((A1.out.swap.setRow (vs' := [.int .i64 0, .int .i64 0, .int .i64 0, .int .i64 0, .int .i64 0, .int .i64 0, .int .i64 0, .int .i64 0])).swap)
 generalize World.setRow _ _ _ = wa0 at *
 clear A1
 have hk0 := hk
 have CN0 := hid (NUM.out k x _ _ _ hk0 K0.out)
 go_upto_region 3 with (go_at_call 108; refine CN0.out.mono ?_; rintro r wb0 ⟨rfl, B⟩; have L0 := hid B; clear B; have cc0 := cell_in L0.out (P := w.heap.size + 1) (t := 31) (o := 0) (List.mem_cons_of_mem _ List.mem_cons_self) rfl; have ff0 := free_at (L0.out.blk (g := w.heap.size + 1) (t := 31) (List.mem_cons_of_mem _ List.mem_cons_self)) 0)
 have M0 := hid ((L0.out.swap.setBlk 0 (.int .i64 (dN l k x))).swap)
 generalize World.setCell _ _ _ = wc0 at *
 clear cc0 ff0 L0 CN0
 have hj0 := dK_le (x := x) hk0
 obtain ⟨k1, ek1⟩ : ∃ v, Hid (v = dK l k x) := ⟨_, hid rfl⟩
 obtain ⟨x1, ex1⟩ : ∃ v, Hid (v = dNX l k x) := ⟨_, hid rfl⟩
 rw [← ek1.out, ← ex1.out] at M0
 rw [← ek1.out] at hj0
 simp only [List.set_cons_zero] at M0
 have CW := hid (WRD.out k1 x1 _ _ _ hj0 M0.out)
 obtain ⟨q, eq⟩ : ∃ v, Hid (v = dW l k1 x1) := ⟨_, hid rfl⟩
 obtain ⟨k2, ek2⟩ : ∃ v, Hid (v = dK l k1 x1) := ⟨_, hid rfl⟩
 obtain ⟨xw, exw⟩ : ∃ v, Hid (v = dX l k1 x1) := ⟨_, hid rfl⟩
 obtain ⟨V0, eV0⟩ : ∃ v, Hid (v = dN l k x) := ⟨_, hid rfl⟩
 rw [← eq.out, ← ek2.out, ← exw.out, ← eV0.out] at CW
 go_upto_region 4 with (go_at_call 107; refine CW.out.mono ?_; rintro r w2 ⟨rfl, B2⟩; have K2 := hid B2; clear B2)
 have hz : stP q 1 = 0 := by unfold stP; simp
 have K3 : Hid (All (rdB R s k2 xw :: blkC (w.heap.size + 1) [.int .i64 V0, .int .i64 (stP q 1), .int .i64 0, .int .i64 0, .int .i64 0, .int .i64 0, .int .i64 0, .int .i64 0] 31 :: blkC w.heap.size [.int .i64 0, .int .i64 0, .int .i64 0, .int .i64 0, .int .i64 0, .int .i64 0, .int .i64 0, .int .i64 0] 31 :: cs) w2) := hid (by rw [hz]; exact K2.out)
 clear hz K2 CW M0
 go_wp2
 go_loopw [5] (fun iv wr => ∃ i : Nat, 1 ≤ i ∧ i ≤ 4 ∧ iv = .int .i64 (i : Int) ∧ Hid (All (rdB R s k2 xw :: blkC (w.heap.size + 1) [.int .i64 V0, .int .i64 (stP q i), .int .i64 0, .int .i64 0, .int .i64 0, .int .i64 0, .int .i64 0, .int .i64 0] 31 :: blkC w.heap.size [.int .i64 0, .int .i64 0, .int .i64 0, .int .i64 0, .int .i64 0, .int .i64 0, .int .i64 0, .int .i64 0] 31 :: cs) wr)) (fun iv _ => 5 - (intOf iv).toNat)
 case atStart => exact ⟨1, by omega, by omega, rfl, K3⟩
 case round =>
   obtain ⟨i, h1, h4, rfl, HK⟩ := hrel
   clear K3
   by_cases i1 : i = 1
   · subst i1
     by_cases hq : q = statN 1
     · have hq' : ((⟨q.toArray⟩ : ByteArray).toList == (⟨(statN 1).toArray⟩ : ByteArray).toList) = true := by rw [ba_ne]; simpa using hq
       have cS := hid (status_any 1 wr)
       have hst : stP q 2 = 1 := by unfold stP; simp [hq]
       have c1 := hid (fun W (h : Below wr.heap.size wr W) => cell_in (HK.out.later h) (P := w.heap.size + 1) (t := 31) (o := 1) (List.mem_cons_of_mem _ List.mem_cons_self) rfl)
       have f1 := hid (fun W (h : Below wr.heap.size wr W) => free_at ((HK.out.later h).blk (g := w.heap.size + 1) (t := 31) (List.mem_cons_of_mem _ List.mem_cons_self)) 1)
       generalize ByteArray.mk q.toArray = X at *
       generalize ByteArray.mk (statN 1).toArray = Y at *
       go_wp2_with (go_at_call 97; refine cS.out.mono ?_; rintro r w5 ⟨rfl, B5⟩; have HL := hid B5; have d1 := c1.out _ B5; have g1 := f1.out _ B5; clear B5)
       go_roundw
       case rel => exact ⟨2, by omega, by omega, by go_num, hid (by have h6 := ((HK.out.later HL.out).swap.setBlk 1 (.int .i64 1)).swap; rw [hst]; exact h6)⟩
       case measure => simp [intOf]
     · have hq' : ((⟨q.toArray⟩ : ByteArray).toList == (⟨(statN 1).toArray⟩ : ByteArray).toList) = false := by rw [ba_ne]; simpa using hq
       have cS := hid (status_any 1 wr)
       have hst : stP q 2 = stP q 1 := by unfold stP; simp [hq]
       generalize ByteArray.mk q.toArray = X at *
       generalize ByteArray.mk (statN 1).toArray = Y at *
       go_wp2_with (go_at_call 97; refine cS.out.mono ?_; rintro r w5 ⟨rfl, B5⟩; have HL := hid B5; clear B5)
       go_roundw
       case rel => exact ⟨2, by omega, by omega, by go_num, hid (by rw [hst]; exact HK.out.later HL.out)⟩
       case measure => simp [intOf]
   by_cases i2 : i = 2
   · subst i2
     by_cases hq : q = statN 2
     · have hq' : ((⟨q.toArray⟩ : ByteArray).toList == (⟨(statN 2).toArray⟩ : ByteArray).toList) = true := by rw [ba_ne]; simpa using hq
       have cS := hid (status_any 2 wr)
       have hst : stP q 3 = 2 := by unfold stP; simp [hq]
       have c1 := hid (fun W (h : Below wr.heap.size wr W) => cell_in (HK.out.later h) (P := w.heap.size + 1) (t := 31) (o := 1) (List.mem_cons_of_mem _ List.mem_cons_self) rfl)
       have f1 := hid (fun W (h : Below wr.heap.size wr W) => free_at ((HK.out.later h).blk (g := w.heap.size + 1) (t := 31) (List.mem_cons_of_mem _ List.mem_cons_self)) 1)
       generalize ByteArray.mk q.toArray = X at *
       generalize ByteArray.mk (statN 2).toArray = Y at *
       go_wp2_with (go_at_call 97; refine cS.out.mono ?_; rintro r w5 ⟨rfl, B5⟩; have HL := hid B5; have d1 := c1.out _ B5; have g1 := f1.out _ B5; clear B5)
       go_roundw
       case rel => exact ⟨3, by omega, by omega, by go_num, hid (by have h6 := ((HK.out.later HL.out).swap.setBlk 1 (.int .i64 2)).swap; rw [hst]; exact h6)⟩
       case measure => simp [intOf]
     · have hq' : ((⟨q.toArray⟩ : ByteArray).toList == (⟨(statN 2).toArray⟩ : ByteArray).toList) = false := by rw [ba_ne]; simpa using hq
       have cS := hid (status_any 2 wr)
       have hst : stP q 3 = stP q 2 := by unfold stP; simp [hq]
       generalize ByteArray.mk q.toArray = X at *
       generalize ByteArray.mk (statN 2).toArray = Y at *
       go_wp2_with (go_at_call 97; refine cS.out.mono ?_; rintro r w5 ⟨rfl, B5⟩; have HL := hid B5; clear B5)
       go_roundw
       case rel => exact ⟨3, by omega, by omega, by go_num, hid (by rw [hst]; exact HK.out.later HL.out)⟩
       case measure => simp [intOf]
   by_cases i3 : i = 3
   · subst i3
     by_cases hq : q = statN 3
     · have hq' : ((⟨q.toArray⟩ : ByteArray).toList == (⟨(statN 3).toArray⟩ : ByteArray).toList) = true := by rw [ba_ne]; simpa using hq
       have cS := hid (status_any 3 wr)
       have hst : stP q 4 = 3 := by unfold stP; simp [hq]
       have c1 := hid (fun W (h : Below wr.heap.size wr W) => cell_in (HK.out.later h) (P := w.heap.size + 1) (t := 31) (o := 1) (List.mem_cons_of_mem _ List.mem_cons_self) rfl)
       have f1 := hid (fun W (h : Below wr.heap.size wr W) => free_at ((HK.out.later h).blk (g := w.heap.size + 1) (t := 31) (List.mem_cons_of_mem _ List.mem_cons_self)) 1)
       generalize ByteArray.mk q.toArray = X at *
       generalize ByteArray.mk (statN 3).toArray = Y at *
       go_wp2_with (go_at_call 97; refine cS.out.mono ?_; rintro r w5 ⟨rfl, B5⟩; have HL := hid B5; have d1 := c1.out _ B5; have g1 := f1.out _ B5; clear B5)
       go_roundw
       case rel => exact ⟨4, by omega, by omega, by go_num, hid (by have h6 := ((HK.out.later HL.out).swap.setBlk 1 (.int .i64 3)).swap; rw [hst]; exact h6)⟩
       case measure => simp [intOf]
     · have hq' : ((⟨q.toArray⟩ : ByteArray).toList == (⟨(statN 3).toArray⟩ : ByteArray).toList) = false := by rw [ba_ne]; simpa using hq
       have cS := hid (status_any 3 wr)
       have hst : stP q 4 = stP q 3 := by unfold stP; simp [hq]
       generalize ByteArray.mk q.toArray = X at *
       generalize ByteArray.mk (statN 3).toArray = Y at *
       go_wp2_with (go_at_call 97; refine cS.out.mono ?_; rintro r w5 ⟨rfl, B5⟩; have HL := hid B5; clear B5)
       go_roundw
       case rel => exact ⟨4, by omega, by omega, by go_num, hid (by rw [hst]; exact HK.out.later HL.out)⟩
       case measure => simp [intOf]
   have i4 : i = 4 := by omega
   subst i4
   obtain ⟨ST, eST⟩ : ∃ v, Hid (v = stI q) := ⟨_, hid rfl⟩
   have h44 : stP q 4 = ST := by rw [eST.out]; unfold stP stI; simp
   rw [h44] at HK
   clear h44
   have hj1 := dK_le (x := x1) hj0
   rw [← ek2.out] at hj1
   have cst := cell_in HK.out (P := w.heap.size + 1) (t := 31) (o := 1) (List.mem_cons_of_mem _ List.mem_cons_self) rfl
   by_cases h0 : ST = 0
   · have hx2' : flE xw 190 = dLX l k1 x1 := by unfold dLX; rw [← eq.out, ← eST.out, if_pos h0, ← exw.out]
     obtain ⟨x2, ex2⟩ : ∃ v, Hid (v = flE xw 190) := ⟨_, hid rfl⟩
     have hx2 : Hid (x2 = dLX l k1 x1) := hid (by rw [ex2.out]; exact hx2')
     have CF := hid (FAI.out _ _ _ _ HK.out)
     rw [← ex2.out] at CF
     have hb : (ST == 0) = true := by simpa using h0
     clear hx2' h0
     go_upto_region 11 with (go_at_call 75; refine CF.out.mono ?_; rintro r w6 ⟨rfl, B6⟩; have KF := hid B6; clear B6)
     clear cst
     have CN2 := hid (NUM.out k2 x2 _ _ _ hj1 KF.out)
     go_upto_region 12 with (go_at_call 108; refine CN2.out.mono ?_; rintro r wb2 ⟨rfl, B⟩; have L2 := hid B; clear B; have cc2 := cell_in L2.out (P := w.heap.size + 1) (t := 31) (o := 2) (List.mem_cons_of_mem _ List.mem_cons_self) rfl; have ff2 := free_at (L2.out.blk (g := w.heap.size + 1) (t := 31) (List.mem_cons_of_mem _ List.mem_cons_self)) 2)
     have M2 := hid ((L2.out.swap.setBlk 2 (.int .i64 (dN l k2 x2))).swap)
     generalize World.setCell _ _ _ = wc2 at *
     clear cc2 ff2 L2 CN2
     have hj2 := dK_le (x := x2) hj1
     obtain ⟨k3, ek3⟩ : ∃ v, Hid (v = dK l k2 x2) := ⟨_, hid rfl⟩
     obtain ⟨x3, ex3⟩ : ∃ v, Hid (v = dNX l k2 x2) := ⟨_, hid rfl⟩
     rw [← ek3.out, ← ex3.out] at M2
     rw [← ek3.out] at hj2
     simp only [List.set_cons_zero, List.set_cons_succ] at M2
     have CN3 := hid (NUM.out k3 x3 _ _ _ hj2 M2.out)
     go_upto_region 13 with (go_at_call 108; refine CN3.out.mono ?_; rintro r wb3 ⟨rfl, B⟩; have L3 := hid B; clear B; have cc3 := cell_in L3.out (P := w.heap.size + 1) (t := 31) (o := 3) (List.mem_cons_of_mem _ List.mem_cons_self) rfl; have ff3 := free_at (L3.out.blk (g := w.heap.size + 1) (t := 31) (List.mem_cons_of_mem _ List.mem_cons_self)) 3)
     have M3 := hid ((L3.out.swap.setBlk 3 (.int .i64 (dN l k3 x3))).swap)
     generalize World.setCell _ _ _ = wc3 at *
     clear cc3 ff3 L3 CN3
     have hj3 := dK_le (x := x3) hj2
     obtain ⟨k4, ek4⟩ : ∃ v, Hid (v = dK l k3 x3) := ⟨_, hid rfl⟩
     obtain ⟨x4, ex4⟩ : ∃ v, Hid (v = dNX l k3 x3) := ⟨_, hid rfl⟩
     rw [← ek4.out, ← ex4.out] at M3
     rw [← ek4.out] at hj3
     simp only [List.set_cons_zero, List.set_cons_succ] at M3
     have CN4 := hid (NUM.out k4 x4 _ _ _ hj3 M3.out)
     go_upto_region 14 with (go_at_call 108; refine CN4.out.mono ?_; rintro r wb4 ⟨rfl, B⟩; have L4 := hid B; clear B; have cc4 := cell_in L4.out (P := w.heap.size + 1) (t := 31) (o := 4) (List.mem_cons_of_mem _ List.mem_cons_self) rfl; have ff4 := free_at (L4.out.blk (g := w.heap.size + 1) (t := 31) (List.mem_cons_of_mem _ List.mem_cons_self)) 4)
     have M4 := hid ((L4.out.swap.setBlk 4 (.int .i64 (dN l k4 x4))).swap)
     generalize World.setCell _ _ _ = wc4 at *
     clear cc4 ff4 L4 CN4
     have hj4 := dK_le (x := x4) hj3
     obtain ⟨k5, ek5⟩ : ∃ v, Hid (v = dK l k4 x4) := ⟨_, hid rfl⟩
     obtain ⟨x5, ex5⟩ : ∃ v, Hid (v = dNX l k4 x4) := ⟨_, hid rfl⟩
     rw [← ek5.out, ← ex5.out] at M4
     rw [← ek5.out] at hj4
     simp only [List.set_cons_zero, List.set_cons_succ] at M4
     have CN5 := hid (NUM.out k5 x5 _ _ _ hj4 M4.out)
     go_upto_region 15 with (go_at_call 108; refine CN5.out.mono ?_; rintro r wb5 ⟨rfl, B⟩; have L5 := hid B; clear B; have cc5 := cell_in L5.out (P := w.heap.size + 1) (t := 31) (o := 5) (List.mem_cons_of_mem _ List.mem_cons_self) rfl; have ff5 := free_at (L5.out.blk (g := w.heap.size + 1) (t := 31) (List.mem_cons_of_mem _ List.mem_cons_self)) 5)
     have M5 := hid ((L5.out.swap.setBlk 5 (.int .i64 (dN l k5 x5))).swap)
     generalize World.setCell _ _ _ = wc5 at *
     clear cc5 ff5 L5 CN5
     have hj5 := dK_le (x := x5) hj4
     obtain ⟨k6, ek6⟩ : ∃ v, Hid (v = dK l k5 x5) := ⟨_, hid rfl⟩
     obtain ⟨x6, ex6⟩ : ∃ v, Hid (v = dNX l k5 x5) := ⟨_, hid rfl⟩
     rw [← ek6.out, ← ex6.out] at M5
     rw [← ek6.out] at hj5
     simp only [List.set_cons_zero, List.set_cons_succ] at M5
     have CN6 := hid (NUM.out k6 x6 _ _ _ hj5 M5.out)
     go_upto_region 16 with (go_at_call 108; refine CN6.out.mono ?_; rintro r wb6 ⟨rfl, B⟩; have L6 := hid B; clear B; have cc6 := cell_in L6.out (P := w.heap.size + 1) (t := 31) (o := 6) (List.mem_cons_of_mem _ List.mem_cons_self) rfl; have ff6 := free_at (L6.out.blk (g := w.heap.size + 1) (t := 31) (List.mem_cons_of_mem _ List.mem_cons_self)) 6)
     have M6 := hid ((L6.out.swap.setBlk 6 (.int .i64 (dN l k6 x6))).swap)
     generalize World.setCell _ _ _ = wc6 at *
     clear cc6 ff6 L6 CN6
     have hj6 := dK_le (x := x6) hj5
     obtain ⟨k7, ek7⟩ : ∃ v, Hid (v = dK l k6 x6) := ⟨_, hid rfl⟩
     obtain ⟨x7, ex7⟩ : ∃ v, Hid (v = dNX l k6 x6) := ⟨_, hid rfl⟩
     rw [← ek7.out, ← ex7.out] at M6
     rw [← ek7.out] at hj6
     simp only [List.set_cons_zero, List.set_cons_succ] at M6
     have CN7 := hid (NUM.out k7 x7 _ _ _ hj6 M6.out)
     go_upto_region 17 with (go_at_call 108; refine CN7.out.mono ?_; rintro r wb7 ⟨rfl, B⟩; have L7 := hid B; clear B; have cc7 := cell_in L7.out (P := w.heap.size + 1) (t := 31) (o := 7) (List.mem_cons_of_mem _ List.mem_cons_self) rfl; have ff7 := free_at (L7.out.blk (g := w.heap.size + 1) (t := 31) (List.mem_cons_of_mem _ List.mem_cons_self)) 7)
     have M7 := hid ((L7.out.swap.setBlk 7 (.int .i64 (dN l k7 x7))).swap)
     generalize World.setCell _ _ _ = wc7 at *
     clear cc7 ff7 L7 CN7
     have hj7 := dK_le (x := x7) hj6
     obtain ⟨k8, ek8⟩ : ∃ v, Hid (v = dK l k7 x7) := ⟨_, hid rfl⟩
     obtain ⟨x8, ex8⟩ : ∃ v, Hid (v = dNX l k7 x7) := ⟨_, hid rfl⟩
     rw [← ek8.out, ← ex8.out] at M7
     rw [← ek8.out] at hj7
     simp only [List.set_cons_zero, List.set_cons_succ] at M7
     have HB3 := hid (M7.out.blk (g := w.heap.size + 1) (t := 31) (List.mem_cons_of_mem _ List.mem_cons_self))
     have HBg := hid (M7.out.blk (g := w.heap.size) (t := 31) (List.mem_cons_of_mem _ (List.mem_cons_of_mem _ List.mem_cons_self)))
     have K6 := hid ((M7.out.perm (List.perm_middle (l₁ := [_, _]))).setRow (vs' := [.int .i64 V0, .int .i64 ST, .int .i64 (dN l k2 x2), .int .i64 (dN l k3 x3), .int .i64 (dN l k4 x4), .int .i64 (dN l k5 x5), .int .i64 (dN l k6 x6), .int .i64 (dN l k7 x7)]))
     have IF : Hid ((Tryz.prog.info? 31).map (·.size) = some (#[.int .i64 V0, .int .i64 ST, .int .i64 (dN l k2 x2), .int .i64 (dN l k3 x3), .int .i64 (dN l k4 x4), .int .i64 (dN l k5 x5), .int .i64 (dN l k6 x6), .int .i64 (dN l k7 x7)] : Array Value).size) := hid (by kernel_rfl)
     have OF : Hid ((#[.int .i64 V0, .int .i64 ST, .int .i64 (dN l k2 x2), .int .i64 (dN l k3 x3), .int .i64 (dN l k4 x4), .int .i64 (dN l k5 x5), .int .i64 (dN l k6 x6), .int .i64 (dN l k7 x7)] : Array Value).all (·.oneCell') = true) := hid (by kernel_rfl)
     go_wp2_with (first | (refine wpList_load_row rfl 31 _ rfl (w.heap.size + 1) rfl 31 #[.int .i64 V0, .int .i64 ST, .int .i64 (dN l k2 x2), .int .i64 (dN l k3 x3), .int .i64 (dN l k4 x4), .int .i64 (dN l k5 x5), .int .i64 (dN l k6 x6), .int .i64 (dN l k7 x7)] (0, 0) _ HB3.out Tryz.underlying31 rfl IF.out ?_) | (refine wpList_store_row rfl 31 _ _ rfl w.heap.size #[.int .i64 V0, .int .i64 ST, .int .i64 (dN l k2 x2), .int .i64 (dN l k3 x3), .int .i64 (dN l k4 x4), .int .i64 (dN l k5 x5), .int .i64 (dN l k6 x6), .int .i64 (dN l k7 x7)] rfl rfl 31 _ HBg.out IF.out rfl OF.out ?_))
     refine ret_lk1 rfl rfl (K6.out.blk List.mem_cons_self) rfl rfl ⟨k1, k2, k3, k4, k5, k6, k7, k8, x1, x2, x3, x4, x5, x6, x7, x8, ek1.out, ex1.out, ek2.out, hx2.out, ek3.out, ex3.out, ek4.out, ex4.out, ek5.out, ex5.out, ek6.out, ex6.out, ek7.out, ex7.out, ek8.out, ex8.out, by rw [← eV0.out, ← eq.out, ← eST.out], K6.out.tail.swap.tail⟩
   · have hx2' : xw = dLX l k1 x1 := by unfold dLX; rw [← eq.out, ← eST.out, if_neg h0, ← exw.out]
     obtain ⟨x2, ex2⟩ : ∃ v, Hid (v = xw) := ⟨_, hid rfl⟩
     have hx2 : Hid (x2 = dLX l k1 x1) := hid (by rw [ex2.out]; exact hx2')
     have KF := HK
     rw [← ex2.out] at KF
     have hb : (ST == 0) = false := by simpa using h0
     clear hx2' h0
     go_upto_region 11 with fail
     clear cst
     have CN2 := hid (NUM.out k2 x2 _ _ _ hj1 KF.out)
     go_upto_region 12 with (go_at_call 108; refine CN2.out.mono ?_; rintro r wb2 ⟨rfl, B⟩; have L2 := hid B; clear B; have cc2 := cell_in L2.out (P := w.heap.size + 1) (t := 31) (o := 2) (List.mem_cons_of_mem _ List.mem_cons_self) rfl; have ff2 := free_at (L2.out.blk (g := w.heap.size + 1) (t := 31) (List.mem_cons_of_mem _ List.mem_cons_self)) 2)
     have M2 := hid ((L2.out.swap.setBlk 2 (.int .i64 (dN l k2 x2))).swap)
     generalize World.setCell _ _ _ = wc2 at *
     clear cc2 ff2 L2 CN2
     have hj2 := dK_le (x := x2) hj1
     obtain ⟨k3, ek3⟩ : ∃ v, Hid (v = dK l k2 x2) := ⟨_, hid rfl⟩
     obtain ⟨x3, ex3⟩ : ∃ v, Hid (v = dNX l k2 x2) := ⟨_, hid rfl⟩
     rw [← ek3.out, ← ex3.out] at M2
     rw [← ek3.out] at hj2
     simp only [List.set_cons_zero, List.set_cons_succ] at M2
     have CN3 := hid (NUM.out k3 x3 _ _ _ hj2 M2.out)
     go_upto_region 13 with (go_at_call 108; refine CN3.out.mono ?_; rintro r wb3 ⟨rfl, B⟩; have L3 := hid B; clear B; have cc3 := cell_in L3.out (P := w.heap.size + 1) (t := 31) (o := 3) (List.mem_cons_of_mem _ List.mem_cons_self) rfl; have ff3 := free_at (L3.out.blk (g := w.heap.size + 1) (t := 31) (List.mem_cons_of_mem _ List.mem_cons_self)) 3)
     have M3 := hid ((L3.out.swap.setBlk 3 (.int .i64 (dN l k3 x3))).swap)
     generalize World.setCell _ _ _ = wc3 at *
     clear cc3 ff3 L3 CN3
     have hj3 := dK_le (x := x3) hj2
     obtain ⟨k4, ek4⟩ : ∃ v, Hid (v = dK l k3 x3) := ⟨_, hid rfl⟩
     obtain ⟨x4, ex4⟩ : ∃ v, Hid (v = dNX l k3 x3) := ⟨_, hid rfl⟩
     rw [← ek4.out, ← ex4.out] at M3
     rw [← ek4.out] at hj3
     simp only [List.set_cons_zero, List.set_cons_succ] at M3
     have CN4 := hid (NUM.out k4 x4 _ _ _ hj3 M3.out)
     go_upto_region 14 with (go_at_call 108; refine CN4.out.mono ?_; rintro r wb4 ⟨rfl, B⟩; have L4 := hid B; clear B; have cc4 := cell_in L4.out (P := w.heap.size + 1) (t := 31) (o := 4) (List.mem_cons_of_mem _ List.mem_cons_self) rfl; have ff4 := free_at (L4.out.blk (g := w.heap.size + 1) (t := 31) (List.mem_cons_of_mem _ List.mem_cons_self)) 4)
     have M4 := hid ((L4.out.swap.setBlk 4 (.int .i64 (dN l k4 x4))).swap)
     generalize World.setCell _ _ _ = wc4 at *
     clear cc4 ff4 L4 CN4
     have hj4 := dK_le (x := x4) hj3
     obtain ⟨k5, ek5⟩ : ∃ v, Hid (v = dK l k4 x4) := ⟨_, hid rfl⟩
     obtain ⟨x5, ex5⟩ : ∃ v, Hid (v = dNX l k4 x4) := ⟨_, hid rfl⟩
     rw [← ek5.out, ← ex5.out] at M4
     rw [← ek5.out] at hj4
     simp only [List.set_cons_zero, List.set_cons_succ] at M4
     have CN5 := hid (NUM.out k5 x5 _ _ _ hj4 M4.out)
     go_upto_region 15 with (go_at_call 108; refine CN5.out.mono ?_; rintro r wb5 ⟨rfl, B⟩; have L5 := hid B; clear B; have cc5 := cell_in L5.out (P := w.heap.size + 1) (t := 31) (o := 5) (List.mem_cons_of_mem _ List.mem_cons_self) rfl; have ff5 := free_at (L5.out.blk (g := w.heap.size + 1) (t := 31) (List.mem_cons_of_mem _ List.mem_cons_self)) 5)
     have M5 := hid ((L5.out.swap.setBlk 5 (.int .i64 (dN l k5 x5))).swap)
     generalize World.setCell _ _ _ = wc5 at *
     clear cc5 ff5 L5 CN5
     have hj5 := dK_le (x := x5) hj4
     obtain ⟨k6, ek6⟩ : ∃ v, Hid (v = dK l k5 x5) := ⟨_, hid rfl⟩
     obtain ⟨x6, ex6⟩ : ∃ v, Hid (v = dNX l k5 x5) := ⟨_, hid rfl⟩
     rw [← ek6.out, ← ex6.out] at M5
     rw [← ek6.out] at hj5
     simp only [List.set_cons_zero, List.set_cons_succ] at M5
     have CN6 := hid (NUM.out k6 x6 _ _ _ hj5 M5.out)
     go_upto_region 16 with (go_at_call 108; refine CN6.out.mono ?_; rintro r wb6 ⟨rfl, B⟩; have L6 := hid B; clear B; have cc6 := cell_in L6.out (P := w.heap.size + 1) (t := 31) (o := 6) (List.mem_cons_of_mem _ List.mem_cons_self) rfl; have ff6 := free_at (L6.out.blk (g := w.heap.size + 1) (t := 31) (List.mem_cons_of_mem _ List.mem_cons_self)) 6)
     have M6 := hid ((L6.out.swap.setBlk 6 (.int .i64 (dN l k6 x6))).swap)
     generalize World.setCell _ _ _ = wc6 at *
     clear cc6 ff6 L6 CN6
     have hj6 := dK_le (x := x6) hj5
     obtain ⟨k7, ek7⟩ : ∃ v, Hid (v = dK l k6 x6) := ⟨_, hid rfl⟩
     obtain ⟨x7, ex7⟩ : ∃ v, Hid (v = dNX l k6 x6) := ⟨_, hid rfl⟩
     rw [← ek7.out, ← ex7.out] at M6
     rw [← ek7.out] at hj6
     simp only [List.set_cons_zero, List.set_cons_succ] at M6
     have CN7 := hid (NUM.out k7 x7 _ _ _ hj6 M6.out)
     go_upto_region 17 with (go_at_call 108; refine CN7.out.mono ?_; rintro r wb7 ⟨rfl, B⟩; have L7 := hid B; clear B; have cc7 := cell_in L7.out (P := w.heap.size + 1) (t := 31) (o := 7) (List.mem_cons_of_mem _ List.mem_cons_self) rfl; have ff7 := free_at (L7.out.blk (g := w.heap.size + 1) (t := 31) (List.mem_cons_of_mem _ List.mem_cons_self)) 7)
     have M7 := hid ((L7.out.swap.setBlk 7 (.int .i64 (dN l k7 x7))).swap)
     generalize World.setCell _ _ _ = wc7 at *
     clear cc7 ff7 L7 CN7
     have hj7 := dK_le (x := x7) hj6
     obtain ⟨k8, ek8⟩ : ∃ v, Hid (v = dK l k7 x7) := ⟨_, hid rfl⟩
     obtain ⟨x8, ex8⟩ : ∃ v, Hid (v = dNX l k7 x7) := ⟨_, hid rfl⟩
     rw [← ek8.out, ← ex8.out] at M7
     rw [← ek8.out] at hj7
     simp only [List.set_cons_zero, List.set_cons_succ] at M7
     have HB3 := hid (M7.out.blk (g := w.heap.size + 1) (t := 31) (List.mem_cons_of_mem _ List.mem_cons_self))
     have HBg := hid (M7.out.blk (g := w.heap.size) (t := 31) (List.mem_cons_of_mem _ (List.mem_cons_of_mem _ List.mem_cons_self)))
     have K6 := hid ((M7.out.perm (List.perm_middle (l₁ := [_, _]))).setRow (vs' := [.int .i64 V0, .int .i64 ST, .int .i64 (dN l k2 x2), .int .i64 (dN l k3 x3), .int .i64 (dN l k4 x4), .int .i64 (dN l k5 x5), .int .i64 (dN l k6 x6), .int .i64 (dN l k7 x7)]))
     have IF : Hid ((Tryz.prog.info? 31).map (·.size) = some (#[.int .i64 V0, .int .i64 ST, .int .i64 (dN l k2 x2), .int .i64 (dN l k3 x3), .int .i64 (dN l k4 x4), .int .i64 (dN l k5 x5), .int .i64 (dN l k6 x6), .int .i64 (dN l k7 x7)] : Array Value).size) := hid (by kernel_rfl)
     have OF : Hid ((#[.int .i64 V0, .int .i64 ST, .int .i64 (dN l k2 x2), .int .i64 (dN l k3 x3), .int .i64 (dN l k4 x4), .int .i64 (dN l k5 x5), .int .i64 (dN l k6 x6), .int .i64 (dN l k7 x7)] : Array Value).all (·.oneCell') = true) := hid (by kernel_rfl)
     go_wp2_with (first | (refine wpList_load_row rfl 31 _ rfl (w.heap.size + 1) rfl 31 #[.int .i64 V0, .int .i64 ST, .int .i64 (dN l k2 x2), .int .i64 (dN l k3 x3), .int .i64 (dN l k4 x4), .int .i64 (dN l k5 x5), .int .i64 (dN l k6 x6), .int .i64 (dN l k7 x7)] (0, 0) _ HB3.out Tryz.underlying31 rfl IF.out ?_) | (refine wpList_store_row rfl 31 _ _ rfl w.heap.size #[.int .i64 V0, .int .i64 ST, .int .i64 (dN l k2 x2), .int .i64 (dN l k3 x3), .int .i64 (dN l k4 x4), .int .i64 (dN l k5 x5), .int .i64 (dN l k6 x6), .int .i64 (dN l k7 x7)] rfl rfl 31 _ HBg.out IF.out rfl OF.out ?_))
     refine ret_lk1 rfl rfl (K6.out.blk List.mem_cons_self) rfl rfl ⟨k1, k2, k3, k4, k5, k6, k7, k8, x1, x2, x3, x4, x5, x6, x7, x8, ek1.out, ex1.out, ek2.out, hx2.out, ek3.out, ex3.out, ek4.out, ex4.out, ek5.out, ex5.out, ek6.out, ex6.out, ek7.out, ex7.out, ek8.out, ex8.out, by rw [← eV0.out, ← eq.out, ← eST.out], K6.out.tail.swap.tail⟩
set_option linter.unusedVariables false
set_option maxRecDepth 100000
def dRd (t : Th) (l : Ws) (k : Nat) (x : Int) : Ct × Nat × Int := match t with
 | .op _ => (.op (dO l k x).o, k + (dO l k x).k, flE x (dO l k x).e)
 | .res _ => (.res (dR l k x).c (dR l k x).n (dR l k x).items, k + (dR l k x).k, flE x (dR l k x).e)
 | .sta _ => (.int (stI (dW l k x)), dK l k x, dLX l k x)
 | .fre _ => (.bool (decide (dW l k x = [102, 114, 101, 115, 104])), dK l k x, if decide (dW l k x = [102, 114, 101, 115, 104]) || decide (dW l k x = [111, 108, 100]) then dX l k x else flE (dX l k x) 190)
 | .dat _ => (.dat ((hxP (dW l k x)).getD []), dK l k x, dDE l k x)
 | _ => (.int (dN l k x), dK l k x, dNX l k x)
def dRun : List Th → Ws → Nat → Int → List Ct × Nat × Int
 | [], _, k, x => ([], k, x)
 | t :: r, l, k, x => ((dRd t l k x).1 :: (dRun r l (dRd t l k x).2.1 (dRd t l k x).2.2).1, (dRun r l (dRd t l k x).2.1 (dRd t l k x).2.2).2)
theorem flE_ne {x e : Int} (h : x ≠ 0) : flE x e = x := by unfold flE; rw [if_neg h]
theorem dX_ne {l : Ws} {k : Nat} {x : Int} (h : x ≠ 0) : dX l k x = x := by unfold dX; rw [if_pos h]
theorem dRd_ne (t : Th) (l : Ws) (k : Nat) {x : Int} (h : x ≠ 0) : (dRd t l k x).2.2 = x := by
 cases t <;> simp only [dRd, dNX, dLX, dDE, dDX, dX_ne h, flE_ne h]
 all_goals (repeat' split) <;> first | rfl | exact flE_ne h
theorem dRun_ne (r : List Th) (l : Ws) (k : Nat) {x : Int} (h : x ≠ 0) : (dRun r l k x).2.2 = x := by
 induction r generalizing k with
 | nil => rfl
 | cons t r ih =>
   rw [dRun]
   have := dRd_ne t l k h
   simp only [this]
   exact ih _
theorem dz_nil {l : Ws} {k : Nat} (h : l.drop k = []) : dW l k 0 = [] ∧ dK l k 0 = k ∧ dX l k 0 = 190 := by
 have hk : l.length ≤ k := by simpa using h
 refine ⟨?_, ?_, ?_⟩
 · unfold dW; simp [List.getD, hk]
 · unfold dK; simp [hk]
 · unfold dX; simp [hk]
theorem dz_cons {l : Ws} {k : Nat} {y : List UInt8} {r : Ws} (h : l.drop k = y :: r) : dW l k 0 = y ∧ dK l k 0 = k + 1 ∧ dX l k 0 = 0 := by
 have hk : k < l.length := by
   by_cases hk : k < l.length
   · exact hk
   · rw [List.drop_eq_nil_of_le (by omega)] at h
     cases h
 have hy : l[k] = y := by
   rw [List.drop_eq_getElem_cons hk] at h
   exact (List.cons.inj h).1
 refine ⟨?_, ?_, ?_⟩
 · unfold dW; simp [List.getD, hk, hy]
 · unfold dK; rw [if_neg (by simp), if_neg (by omega)]
 · unfold dX; rw [if_neg (by simp), if_neg (by omega)]
theorem hxP_hexR : ∀ (l : List UInt8), l.length % 2 = 0 → hxP l = hexR l
 | [], _ => rfl
 | [_], h => by simp at h
 | a :: b :: r, h => by
   have := hxP_hexR r (by simp at h; omega)
   rw [hxP, hexR, this]
   cases hexN a.toNat <;> cases hexN b.toNat <;> rfl
theorem stI_stW (y : List UInt8) : stI y = (((stW y).getD 0 : Nat) : Int) ∧ ((stW y).isSome = true ↔ stI y ≠ 0) := by
 have e1 : statN 1 = [110, 111, 114, 109, 97, 108] := rfl
 have e2 : statN 2 = [99, 104, 97, 110, 103, 101] := rfl
 have e3 : statN 3 = [114, 101, 99, 111, 118, 101, 114, 105, 110, 103] := rfl
 unfold stI stW
 rw [e1, e2, e3]
 show _ = ((((findW y 1 [[110, 111, 114, 109, 97, 108], [99, 104, 97, 110, 103, 101], [114, 101, 99, 111, 118, 101, 114, 105, 110, 103]]).getD 0 : Nat)) : Int) ∧ ((findW y 1 [[110, 111, 114, 109, 97, 108], [99, 104, 97, 110, 103, 101], [114, 101, 99, 111, 118, 101, 114, 105, 110, 103]]).isSome = true ↔ _)
 by_cases h1 : y = [110, 111, 114, 109, 97, 108]
 · subst h1; decide
 by_cases h2 : y = [99, 104, 97, 110, 103, 101]
 · subst h2; decide
 by_cases h3 : y = [114, 101, 99, 111, 118, 101, 114, 105, 110, 103]
 · subst h3; decide
 have n1 : ¬ [110, 111, 114, 109, 97, 108] = y := fun h => h1 h.symm
 have n2 : ¬ [99, 104, 97, 110, 103, 101] = y := fun h => h2 h.symm
 have n3 : ¬ [114, 101, 99, 111, 118, 101, 114, 105, 110, 103] = y := fun h => h3 h.symm
 simp [findW, h1, h2, h3, n1, n2, n3]
theorem dRd_zero {t : Th} (hf : flatT t = true) (l : Ws) (k : Nat) : ((rd1 t (l.drop k)).1 = 0 → dRd t l k 0 = ((rd1 t (l.drop k)).2.2, k + (rd1 t (l.drop k)).2.1, 0)) ∧ ((rd1 t (l.drop k)).1 ≠ 0 → (dRd t l k 0).2.2 = (rd1 t (l.drop k)).1) := by
 have f0 : ∀ e : Int, flE 0 e = e := fun e => by unfold flE; rw [if_pos rfl]
 have f9 : flE 190 190 = 190 := by unfold flE; rw [if_neg (by decide)]
 cases t with
 | op o =>
   have : dO l k 0 = readO (l.drop k) := by unfold dO; rw [if_neg (by simp)]
   simp only [dRd, rd1, this, f0]
   exact ⟨fun h => by rw [h], fun _ => trivial⟩
 | res o =>
   have : dR l k 0 = readR (l.drop k) := by unfold dR; rw [if_neg (by simp)]
   simp only [dRd, rd1, this, f0]
   exact ⟨fun h => by rw [h], fun _ => trivial⟩
 | look o => simp [flatT] at hf
 | sht o => simp [flatT] at hf
 | int o =>
   match hd : l.drop k with
   | [] =>
     obtain ⟨h1, h2, h3⟩ := dz_nil hd
     have : (numW []).isSome = false := by decide
     simp only [dRd, rd1, dN, dNX, h1, h2, h3, this, f9]
     exact ⟨fun h => by simp at h, fun _ => by simp⟩
   | y :: r =>
     obtain ⟨h1, h2, h3⟩ := dz_cons hd
     simp only [dRd, rd1, dN, dNX, h1, h2, h3, f0]
     by_cases hn : (numW y).isSome = true
     · simp [hn]
     · simp [hn]
 | cod o =>
   match hd : l.drop k with
   | [] =>
     obtain ⟨h1, h2, h3⟩ := dz_nil hd
     have : (numW []).isSome = false := by decide
     simp only [dRd, rd1, dN, dNX, h1, h2, h3, this, f9]
     exact ⟨fun h => by simp at h, fun _ => by simp⟩
   | y :: r =>
     obtain ⟨h1, h2, h3⟩ := dz_cons hd
     simp only [dRd, rd1, dN, dNX, h1, h2, h3, f0]
     by_cases hn : (numW y).isSome = true
     · simp [hn]
     · simp [hn]
 | fre o =>
   match hd : l.drop k with
   | [] =>
     obtain ⟨h1, h2, h3⟩ := dz_nil hd
     simp only [dRd, rd1, h1, h2, h3, f9]
     exact ⟨fun h => by simp at h, fun _ => by simp⟩
   | y :: r =>
     obtain ⟨h1, h2, h3⟩ := dz_cons hd
     simp only [dRd, rd1, h1, h2, h3, f0]
     split
     · simp
     · simp
 | sta o =>
   match hd : l.drop k with
   | [] =>
     obtain ⟨h1, h2, h3⟩ := dz_nil hd
     have : stI [] = 0 := by decide
     simp only [dRd, rd1, dLX, h1, h2, h3, this, f9]
     exact ⟨fun h => by simp at h, fun _ => by simp⟩
   | y :: r =>
     obtain ⟨h1, h2, h3⟩ := dz_cons hd
     obtain ⟨s1, s2⟩ := stI_stW y
     simp only [dRd, rd1, dLX, h1, h2, h3, f0]
     by_cases hn : (stW y).isSome = true
     · have := s2.1 hn
       simp [hn, s1]
       intro h
       rw [s1] at this
       exact absurd (by rw [h]; rfl) this
     · have h0 : stI y = 0 := by
         by_cases h0 : stI y = 0
         · exact h0
         · exact absurd (s2.2 h0) hn
       simp [hn, h0]
 | dat o =>
   match hd : l.drop k with
   | [] =>
     obtain ⟨h1, h2, h3⟩ := dz_nil hd
     have e1 : (hxP []).isSome = true := rfl
     simp only [dRd, rd1, dDE, dDX, h1, h2, h3, e1]
     refine ⟨fun h => by simp at h, fun _ => by simp⟩
   | y :: r =>
     obtain ⟨h1, h2, h3⟩ := dz_cons hd
     simp only [dRd, rd1, dDE, dDX, h1, h2, h3, f0]
     by_cases hb : y.length % 2 ≠ 0 ∨ 4608 < y.length
     · have e1 : datR y = none := by unfold datR; rw [if_pos hb]
       have e2 : y.length % 2 = 1 ∨ 4608 < y.length := by omega
       simp only [e1, if_pos e2, f9]
       exact ⟨fun h => by simp at h, fun _ => by simp⟩
     · have e1 : datR y = hexR y := by unfold datR; rw [if_neg hb]
       have e2 : ¬ (y.length % 2 = 1 ∨ 4608 < y.length) := by omega
       have e3 : hxP y = hexR y := hxP_hexR y (by omega)
       simp only [e1, e3, if_neg e2, f0]
       by_cases hn : (hexR y).isSome = true
       · simp [hn]
       · simp [hn]
theorem dRun_zero {ts : List Th} (hf : ∀ t ∈ ts, flatT t = true) (l : Ws) (k : Nat) : ((rdsL ts (l.drop k)).1 = 0 → dRun ts l k 0 = ((rdsL ts (l.drop k)).2.2, k + (rdsL ts (l.drop k)).2.1, 0)) ∧ ((rdsL ts (l.drop k)).1 ≠ 0 → (dRun ts l k 0).2.2 = (rdsL ts (l.drop k)).1) := by
 induction ts generalizing k with
 | nil => exact ⟨fun _ => rfl, fun h => absurd rfl h⟩
 | cons t r ih =>
   obtain ⟨z1, z2⟩ := dRd_zero (hf t (by simp)) l k
   by_cases h0 : (rd1 t (l.drop k)).1 = 0
   · have e1 := z1 h0
     have ih' := ih (fun x hx => hf x (by simp [hx])) (k + (rd1 t (l.drop k)).2.1)
     have ed : (l.drop k).drop (rd1 t (l.drop k)).2.1 = l.drop (k + (rd1 t (l.drop k)).2.1) := by rw [List.drop_drop]
     rw [rdsL, if_neg (by simp [h0]), ed]
     rw [dRun, e1]
     refine ⟨fun h => ?_, fun h => ?_⟩
     · rw [ih'.1 h]
       simp [Nat.add_assoc]
     · exact ih'.2 h
   · have e1 := z2 h0
     rw [rdsL, if_pos h0, dRun]
     refine ⟨fun h => absurd h h0, fun _ => ?_⟩
     show (dRun r l (dRd t l k 0).2.1 (dRd t l k 0).2.2).2.2 = _
     rw [e1]
     exact dRun_ne r l _ h0
set_option linter.unusedVariables false
set_option maxRecDepth 1000000
set_option maxHeartbeats 12800000
abbrev zC : List Value := [.int .i64 0, .int .i64 0, .int .i64 0, .int .i64 0, .int .i64 0, .int .i64 0, .bool false, .int .i64 0, .string ⟨#[]⟩, .string ⟨#[]⟩, .int .i64 0, .int .i64 0, .int .i64 0, .int .i64 0, .int .i64 0, .string ⟨#[]⟩, .string ⟨#[]⟩, .int .i64 0, .int .i64 0, .int .i64 0, .int .i64 0, .slice none 0 0, .int .i64 0, .int .i64 0, .int .i64 0, .int .i64 0, .int .i64 0, .int .i64 0, .int .i64 0, .int .i64 0, .int .i64 0, .int .i64 0, .slice none 0 0]
def kdP (q : List UInt8) : Nat → Int
 | 0 => 0
 | i + 1 => if i ≠ 0 ∧ q = wordN (i : Int) then (i : Int) else kdP q i
def tsK (k : Int) : List Th := (kindT k).flatMap sub
def DEPost (K : Int) (R : Nat) (S : Value) (l : Ws) (k1 : Nat) (x1 : Int) (cs : List Comp) (e : Ending) (w' : World) : Prop :=
 ∃ vs : List Value, vs.length = (dRun (tsK K) l k1 x1).1.length ∧ e = .returned (.agg (putL (Ev.zero K).cells (tsK K) (dRun (tsK K) l k1 x1).1 vs).toArray) ∧ All (rdB R S (dRun (tsK K) l k1 x1).2.1 (dRun (tsK K) l k1 x1).2.2 :: (ownL (dRun (tsK K) l k1 x1).1 vs ++ cs)) w'
theorem ret_evD {fn : Func} (hf : fn.results = #[.cell 2 36]) {R : Ending → World → Prop} {a : Act} {w : World} {b : Nat} {EC : List Value} (ht : a.tmps.getD 2 undef = ptr b) (hg : w.heap[b]? = some (.cells EC.toArray 36 (0, 0))) (hs : EC.length = 33) (hd : a.defers = []) (hR : R (.returned (.agg EC.toArray)) w) : bodyPost Tryz.prog fn R .ret a w := by
 refine bodyPost_ret (v := .agg EC.toArray) ?_ hd hR
 have hp : a.tmps[2]?.getD undef = ptr b := by rw [← ht]; simp
 simp [results, hf, hp, asAddr, run_loadVar_row w b 36 36 EC.toArray (0, 0) _ hg Tryz.underlying36 rfl (by rw [List.size_toArray, hs]; kernel_rfl)]
theorem some_at {C : List Value} (h : C.length = 33) (o : Nat) (ho : o < 33) : ∃ v, C[o]? = some v := ⟨C[o]'(by omega), List.getElem?_eq_getElem (by omega)⟩
theorem dO_le {l : Ws} {k : Nat} {x : Int} (h : k ≤ l.length) : k + (dO l k x).k ≤ l.length := by
 unfold dO
 split
 · simpa [RO.bad] using h
 · have := readO_le (l.drop k)
   rw [List.length_drop] at this
   omega
theorem zero_one (k : Int) : ∀ u ∈ (Ev.zero k).cells, u.oneCell' = true := by
 intro u hu
 simp only [Ev.cells, Ev.zero, List.mem_cons, List.not_mem_nil, or_false] at hu
 rcases hu with rfl | rfl | rfl | rfl | rfl | rfl | rfl | rfl | rfl | rfl | rfl | rfl | rfl | rfl | rfl | rfl | rfl | rfl | rfl | rfl | rfl | rfl | rfl | rfl | rfl | rfl | rfl | rfl | rfl | rfl | rfl | rfl | rfl <;> rfl
theorem revent_none {R : Nat} {s : Value} {l : Ws} {k : Nat} {x : Int} {cs : List Comp} {w : World} (hk : k ≤ l.length) (hl16 : l.length * 16 ≤ 140737488355328) (hs : ∀ y ∈ l, y.length ≤ 140737488355328) (hS : ∀ W, All cs W → Rt W s l) (hq : kdP (dW l k x) 12 = 0) (A : All (rdB R s k x :: cs) w) :
   Calls Tryz.prog 74 #[.pointer (some ⟨R, 0, none⟩)] w fun e w' => e = .returned (.agg (Ev.zero 0).cells.toArray) ∧ All (rdB R s (dK l k x) (flE (dX l k x) 190) :: cs) w' := by
 have hl : l.length ≤ 140737488355328 := by omega
 obtain ⟨q, eq⟩ : ∃ v, Hid (v = dW l k x) := ⟨_, hid rfl⟩
 obtain ⟨k1, ek1⟩ : ∃ v, Hid (v = dK l k x) := ⟨_, hid rfl⟩
 obtain ⟨xw, exw⟩ : ∃ v, Hid (v = dX l k x) := ⟨_, hid rfl⟩
 rw [← eq.out] at hq
 have HQ := hid hq
 clear hq
 rw [← ek1.out, ← exw.out]
 have WRD : Hid (∀ (k : Nat) (x : Int) (c1 c2 : Comp) W, k ≤ l.length → All (rdB R s k x :: c1 :: c2 :: cs) W → Calls Tryz.prog 107 #[.pointer (some ⟨R, 0, none⟩)] W fun r w' => r = .returned (.string ⟨(dW l k x).toArray⟩) ∧ All (rdB R s (dK l k x) (dX l k x) :: c1 :: c2 :: cs) w') := hid (fun k x c1 c2 W hk h => rword_any hk hl (fun V hV => hS V hV.tail.tail) h)
 have FAI : Hid (∀ (k : Nat) (x : Int) (ds : List Comp) W, All (rdB R s k x :: ds) W → Calls Tryz.prog 75 #[.pointer (some ⟨R, 0, none⟩), .int .i64 190] W fun r w' => r = .returned (.tuple #[]) ∧ All (rdB R s k (flE x 190) :: ds) w') := hid (fun k x ds W h => rfail_any h)
 have A1 := hid (((A.addBlk zC 36).addBlk zC 36).perm (List.perm_middle (l₁ := [_, _])))
 have sz : ∀ (V : World) (o : Obj), (V.alloc o).heap.size = V.heap.size + 1 := fun V o => by simp
 rw [sz] at A1
 have I36 : Hid ((Tryz.prog.info? 36).map (·.size) = some (zC.toArray : Array Value).size) := hid (by kernel_rfl)
 have O36 : Hid ((zC.toArray : Array Value).all (·.oneCell') = true) := hid (by kernel_rfl)
 have K0 := hid ((A1.out.swap.setRow (vs' := zC)).swap)
 have HBn := hid (A1.out.blk (g := w.heap.size + 1) (t := 36) (List.mem_cons_of_mem _ List.mem_cons_self))
 clear A hS hs sz A1
 go_enter Tryz.func74, Tryz.ntmps74
 go_upto_region 2 with (refine wpList_store_row rfl 36 _ _ rfl (w.heap.size + 1) zC.toArray rfl rfl 36 _ HBn.out I36.out rfl O36.out ?_)
 generalize World.setRow _ _ _ = wa0 at *
 clear HBn I36 O36
 have CW := hid (WRD.out k x _ _ _ hk K0.out)
 have hk1 : k1 ≤ l.length := by rw [ek1.out]; exact dK_le hk
 rw [← eq.out, ← ek1.out, ← exw.out] at CW
 go_upto_region 3 with (go_at_call 107; refine CW.out.mono ?_; rintro r w2 ⟨rfl, B2⟩; have K2 := hid B2; clear B2)
 have hz : (Ev.zero (kdP q 1)).cells = (Ev.zero 0).cells := by unfold kdP; simp [kdP]
 have K3 : Hid (All (rdB R s k1 xw :: blkC (w.heap.size + 1) (Ev.zero (kdP q 1)).cells 36 :: blkC w.heap.size (Ev.zero 0).cells 36 :: cs) w2) := hid (by rw [hz]; exact K2.out)
 have SET : Hid (∀ (a b : Int), (Ev.zero a).cells.set 0 (.int .i64 b) = (Ev.zero b).cells) := hid (fun _ _ => rfl)
 have GET : Hid (∀ a : Int, (Ev.zero a).cells[0]? = some (.int .i64 a)) := hid (fun _ => rfl)
 clear hz K2 CW K0 WRD
 go_wp2
 go_loopw [5] (fun iv wr => ∃ i : Nat, 1 ≤ i ∧ i ≤ 12 ∧ iv = .int .i64 (i : Int) ∧ Hid (All (rdB R s k1 xw :: blkC (w.heap.size + 1) (Ev.zero (kdP q i)).cells 36 :: blkC w.heap.size (Ev.zero 0).cells 36 :: cs) wr)) (fun iv _ => 13 - (intOf iv).toNat)
 case atStart => exact ⟨1, by omega, by omega, rfl, K3⟩
 case round =>
   obtain ⟨i, h1, h4, rfl, HK⟩ := hrel
   clear K3
   by_cases hi : i ≤ 11
   · have hi' : (i : Int) ≤ 11 := by omega
     have cS := hid (word_any (i : Int) wr)
     by_cases hq : q = wordN (i : Int)
     · have hq' : ((⟨q.toArray⟩ : ByteArray).toList == (⟨(wordN (i : Int)).toArray⟩ : ByteArray).toList) = true := by rw [ba_ne]; simpa using hq
       have hst : kdP q (i + 1) = (i : Int) := by rw [kdP, if_pos ⟨by omega, hq⟩]
       have c1 := hid (fun W (h : Below wr.heap.size wr W) => cell_in (HK.out.later h) (P := w.heap.size + 1) (t := 36) (o := 0) (List.mem_cons_of_mem _ List.mem_cons_self) (GET.out _))
       have f1 := hid (fun W (h : Below wr.heap.size wr W) => free_at ((HK.out.later h).blk (g := w.heap.size + 1) (t := 36) (List.mem_cons_of_mem _ List.mem_cons_self)) 0)
       generalize ByteArray.mk q.toArray = X at *
       generalize ByteArray.mk (wordN (i : Int)).toArray = Y at *
       go_wp2_with (go_at_call 60; refine cS.out.mono ?_; rintro r w5 ⟨rfl, B5⟩; have HL := hid B5; have d1 := c1.out _ B5; have g1 := f1.out _ B5; clear B5)
       go_roundw
       case rel => exact ⟨i + 1, by omega, by omega, by go_num, hid (by have h6 := ((HK.out.later HL.out).swap.setBlk 0 (.int .i64 (i : Int))).swap; rw [SET.out] at h6; rw [hst]; exact h6)⟩
       case measure => simp [intOf]; omega
     · have hq' : ((⟨q.toArray⟩ : ByteArray).toList == (⟨(wordN (i : Int)).toArray⟩ : ByteArray).toList) = false := by rw [ba_ne]; simpa using hq
       have hst : kdP q (i + 1) = kdP q i := by rw [kdP, if_neg (by simp [hq])]
       generalize ByteArray.mk q.toArray = X at *
       generalize ByteArray.mk (wordN (i : Int)).toArray = Y at *
       go_wp2_with (go_at_call 60; refine cS.out.mono ?_; rintro r w5 ⟨rfl, B5⟩; have HL := hid B5; clear B5)
       go_roundw
       case rel => exact ⟨i + 1, by omega, by omega, by go_num, hid (by rw [hst]; exact HK.out.later HL.out)⟩
       case measure => simp [intOf]; omega
   have i12 : i = 12 := by omega
   subst i12
   rw [HQ.out] at HK
   have c0 := cell_in HK.out (P := w.heap.size + 1) (t := 36) (o := 0) (List.mem_cons_of_mem _ List.mem_cons_self) (GET.out _)
   clear hi HQ eq SET
   have CF := hid (FAI.out _ _ _ _ HK.out)
   have I36 : Hid ((Tryz.prog.info? 36).map (·.size) = some (Ev.zero 0).cells.toArray.size) := hid (by kernel_rfl)
   have O36 : Hid ((Ev.zero 0).cells.toArray.all (·.oneCell') = true) := hid (by kernel_rfl)
   go_upto_region 10 with (go_at_call 75; refine CF.out.mono ?_; rintro r w6 ⟨rfl, B6⟩; have KF := hid B6; clear B6)
   clear c0 CF HK
   have HB3 := hid (KF.out.blk (g := w.heap.size + 1) (t := 36) (List.mem_cons_of_mem _ List.mem_cons_self))
   have HBg := hid (KF.out.blk (g := w.heap.size) (t := 36) (List.mem_cons_of_mem _ (List.mem_cons_of_mem _ List.mem_cons_self)))
   have K6 := hid ((KF.out.perm (List.perm_middle (l₁ := [_, _]))).setRow (vs' := (Ev.zero 0).cells))
   go_wp2_with (first | (refine wpList_load_row rfl 36 _ rfl (w.heap.size + 1) rfl 36 (Ev.zero 0).cells.toArray (0, 0) _ HB3.out Tryz.underlying36 rfl I36.out ?_) | (refine wpList_store_row rfl 36 _ _ rfl w.heap.size (Ev.zero 0).cells.toArray rfl rfl 36 _ HBg.out I36.out rfl O36.out ?_))
   exact ret_evD rfl rfl (K6.out.blk List.mem_cons_self) rfl rfl ⟨rfl, K6.out.tail.swap.tail⟩
set_option linter.unusedVariables false
set_option maxRecDepth 1000000
set_option maxHeartbeats 12800000
theorem revent_a {R g c : Nat} {l : Ws} {k : Nat} {x : Int} {cs : List Comp} {w : World} (hk : k ≤ l.length) (hl16 : l.length * 16 ≤ 140737488355328) (hs : ∀ y ∈ l, y.length ≤ 140737488355328) (hS : ∀ W, All cs W → Rt W (.slice (some ⟨g, 0, none⟩) l.length c) l) (hq : kdP (dW l k x) 12 = 1) (A : All (rdB R (.slice (some ⟨g, 0, none⟩) l.length c) k x :: cs) w) :
   Calls Tryz.prog 74 #[.pointer (some ⟨R, 0, none⟩)] w (DEPost 1 R (.slice (some ⟨g, 0, none⟩) l.length c) l (dK l k x) (dX l k x) cs) := by
 have hl : l.length ≤ 140737488355328 := by omega
 obtain ⟨q, eq⟩ : ∃ v, Hid (v = dW l k x) := ⟨_, hid rfl⟩
 obtain ⟨k1, ek1⟩ : ∃ v, Hid (v = dK l k x) := ⟨_, hid rfl⟩
 obtain ⟨xw, exw⟩ : ∃ v, Hid (v = dX l k x) := ⟨_, hid rfl⟩
 rw [← eq.out] at hq
 have HQ := hid hq
 clear hq
 rw [← ek1.out, ← exw.out]
 have WRD : Hid (∀ (k : Nat) (x : Int) (c1 c2 : Comp) W, k ≤ l.length → All (rdB R (.slice (some ⟨g, 0, none⟩) l.length c) k x :: c1 :: c2 :: cs) W → Calls Tryz.prog 107 #[.pointer (some ⟨R, 0, none⟩)] W fun r w' => r = .returned (.string ⟨(dW l k x).toArray⟩) ∧ All (rdB R (.slice (some ⟨g, 0, none⟩) l.length c) (dK l k x) (dX l k x) :: c1 :: c2 :: cs) w') := hid (fun k x c1 c2 W hk h => rword_any hk hl (fun V hV => hS V hV.tail.tail) h)
 have NUM : Hid (∀ (k : Nat) (x : Int) (c1 c2 : Comp) W, k ≤ l.length → All (rdB R (.slice (some ⟨g, 0, none⟩) l.length c) k x :: c1 :: c2 :: cs) W → Calls Tryz.prog 108 #[.pointer (some ⟨R, 0, none⟩)] W fun r w' => r = .returned (.int .i64 (dN l k x)) ∧ All (rdB R (.slice (some ⟨g, 0, none⟩) l.length c) (dK l k x) (dNX l k x) :: c1 :: c2 :: cs) w') := hid (fun k x c1 c2 W hk h => rnumber_any hk hl hs (fun V hV => hS V hV.tail.tail) h)
 have LEK : Hid (∀ (k : Nat) (x : Int), k ≤ l.length → dK l k x ≤ l.length) := hid (fun k x hk => dK_le hk)
 have A1 := hid (((A.addBlk zC 36).addBlk zC 36).perm (List.perm_middle (l₁ := [_, _])))
 have sz : ∀ (V : World) (o : Obj), (V.alloc o).heap.size = V.heap.size + 1 := fun V o => by simp
 rw [sz] at A1
 have I36 : Hid ((Tryz.prog.info? 36).map (·.size) = some (zC.toArray : Array Value).size) := hid (by kernel_rfl)
 have O36 : Hid ((zC.toArray : Array Value).all (·.oneCell') = true) := hid (by kernel_rfl)
 have K0 := hid ((A1.out.swap.setRow (vs' := zC)).swap)
 have HBn := hid (A1.out.blk (g := w.heap.size + 1) (t := 36) (List.mem_cons_of_mem _ List.mem_cons_self))
 clear A hS hs sz A1
 go_enter Tryz.func74, Tryz.ntmps74
 go_upto_region 2 with (refine wpList_store_row rfl 36 _ _ rfl (w.heap.size + 1) zC.toArray rfl rfl 36 _ HBn.out I36.out rfl O36.out ?_)
 generalize World.setRow _ _ _ = wa0 at *
 clear HBn I36 O36
 have CW := hid (WRD.out k x _ _ _ hk K0.out)
 have hk1 : k1 ≤ l.length := by rw [ek1.out]; exact dK_le hk
 rw [← eq.out, ← ek1.out, ← exw.out] at CW
 go_upto_region 3 with (go_at_call 107; refine CW.out.mono ?_; rintro r w2 ⟨rfl, B2⟩; have K2 := hid B2; clear B2)
 have hz : (Ev.zero (kdP q 1)).cells = (Ev.zero 0).cells := by unfold kdP; simp [kdP]
 have K3 : Hid (All (rdB R (.slice (some ⟨g, 0, none⟩) l.length c) k1 xw :: blkC (w.heap.size + 1) (Ev.zero (kdP q 1)).cells 36 :: blkC w.heap.size (Ev.zero 0).cells 36 :: cs) w2) := hid (by rw [hz]; exact K2.out)
 have SET : Hid (∀ (a b : Int), (Ev.zero a).cells.set 0 (.int .i64 b) = (Ev.zero b).cells) := hid (fun _ _ => rfl)
 have GET : Hid (∀ a : Int, (Ev.zero a).cells[0]? = some (.int .i64 a)) := hid (fun _ => rfl)
 clear hz K2 CW K0 WRD
 go_wp2
 go_loopw [5] (fun iv wr => ∃ i : Nat, 1 ≤ i ∧ i ≤ 12 ∧ iv = .int .i64 (i : Int) ∧ Hid (All (rdB R (.slice (some ⟨g, 0, none⟩) l.length c) k1 xw :: blkC (w.heap.size + 1) (Ev.zero (kdP q i)).cells 36 :: blkC w.heap.size (Ev.zero 0).cells 36 :: cs) wr)) (fun iv _ => 13 - (intOf iv).toNat)
 case atStart => exact ⟨1, by omega, by omega, rfl, K3⟩
 case round =>
   obtain ⟨i, h1, h4, rfl, HK⟩ := hrel
   clear K3
   by_cases hi : i ≤ 11
   · have hi' : (i : Int) ≤ 11 := by omega
     have cS := hid (word_any (i : Int) wr)
     by_cases hq : q = wordN (i : Int)
     · have hq' : ((⟨q.toArray⟩ : ByteArray).toList == (⟨(wordN (i : Int)).toArray⟩ : ByteArray).toList) = true := by rw [ba_ne]; simpa using hq
       have hst : kdP q (i + 1) = (i : Int) := by rw [kdP, if_pos ⟨by omega, hq⟩]
       have c1 := hid (fun W (h : Below wr.heap.size wr W) => cell_in (HK.out.later h) (P := w.heap.size + 1) (t := 36) (o := 0) (List.mem_cons_of_mem _ List.mem_cons_self) (GET.out _))
       have f1 := hid (fun W (h : Below wr.heap.size wr W) => free_at ((HK.out.later h).blk (g := w.heap.size + 1) (t := 36) (List.mem_cons_of_mem _ List.mem_cons_self)) 0)
       generalize ByteArray.mk q.toArray = X at *
       generalize ByteArray.mk (wordN (i : Int)).toArray = Y at *
       go_wp2_with (go_at_call 60; refine cS.out.mono ?_; rintro r w5 ⟨rfl, B5⟩; have HL := hid B5; have d1 := c1.out _ B5; have g1 := f1.out _ B5; clear B5)
       go_roundw
       case rel => exact ⟨i + 1, by omega, by omega, by go_num, hid (by have h6 := ((HK.out.later HL.out).swap.setBlk 0 (.int .i64 (i : Int))).swap; rw [SET.out] at h6; rw [hst]; exact h6)⟩
       case measure => simp [intOf]; omega
     · have hq' : ((⟨q.toArray⟩ : ByteArray).toList == (⟨(wordN (i : Int)).toArray⟩ : ByteArray).toList) = false := by rw [ba_ne]; simpa using hq
       have hst : kdP q (i + 1) = kdP q i := by rw [kdP, if_neg (by simp [hq])]
       generalize ByteArray.mk q.toArray = X at *
       generalize ByteArray.mk (wordN (i : Int)).toArray = Y at *
       go_wp2_with (go_at_call 60; refine cS.out.mono ?_; rintro r w5 ⟨rfl, B5⟩; have HL := hid B5; clear B5)
       go_roundw
       case rel => exact ⟨i + 1, by omega, by omega, by go_num, hid (by rw [hst]; exact HK.out.later HL.out)⟩
       case measure => simp [intOf]; omega
   have i12 : i = 12 := by omega
   subst i12
   rw [HQ.out] at HK
   have c0 := cell_in HK.out (P := w.heap.size + 1) (t := 36) (o := 0) (List.mem_cons_of_mem _ List.mem_cons_self) (GET.out _)
   clear hi HQ eq SET
   go_upto_region 11 with fail
   clear c0
   have CN0 := hid (NUM.out k1 xw _ _ _ hk1 HK.out)
   go_upto_region 12 with (go_at_call 108; refine CN0.out.mono ?_; rintro r wb0 ⟨rfl, B⟩; have L0 := hid B; clear B; have cc0 := cell_in L0.out (P := w.heap.size + 1) (t := 36) (o := 1) (List.mem_cons_of_mem _ List.mem_cons_self) rfl; have ff0 := free_at (L0.out.blk (g := w.heap.size + 1) (t := 36) (List.mem_cons_of_mem _ List.mem_cons_self)) 1)
   have M0 := hid ((L0.out.swap.setBlk 1 (.int .i64 (dN l k1 xw))).swap)
   generalize World.setCell _ _ _ = wc0 at *
   clear cc0 ff0 L0 CN0 HK
   have c0 := cell_in M0.out (P := w.heap.size + 1) (t := 36) (o := 0) (List.mem_cons_of_mem _ List.mem_cons_self) (show ((Ev.zero 1).cells.set 1 (.int .i64 (dN l k1 xw)))[0]? = some (.int .i64 1) from rfl)
   obtain ⟨k2, ek2⟩ : ∃ v, Hid (v = dK l k1 xw) := ⟨_, hid rfl⟩
   obtain ⟨x2, ex2⟩ : ∃ v, Hid (v = dNX l k1 xw) := ⟨_, hid rfl⟩
   obtain ⟨C2, eC2⟩ : ∃ v, Hid (v = (Ev.zero 1).cells.set 1 (.int .i64 (dN l k1 xw))) := ⟨_, hid rfl⟩
   have hC2 : C2.length = 33 := by rw [eC2.out]; rfl
   have hk2 : k2 ≤ l.length := by rw [ek2.out]; exact LEK.out _ _ hk1
   rw [← ek2.out, ← ex2.out, ← eC2.out] at M0
   go_upto_region 14 with fail
   clear c0 GET
   have M2 := M0
   clear M0
   have hk2' := hk2
   obtain ⟨vo2, hvo2⟩ := some_at hC2 5 (by decide)
   have CN2 := hid (NUM.out k2 x2 _ _ _ hk2 M2.out)
   go_upto_region 48 with (go_at_call 108; refine CN2.out.mono ?_; rintro r wb2 ⟨rfl, B⟩; have L2 := hid B; clear B; have cc2 := cell_in L2.out (P := w.heap.size + 1) (t := 36) (o := 5) (List.mem_cons_of_mem _ List.mem_cons_self) hvo2; have ff2 := free_at (L2.out.blk (g := w.heap.size + 1) (t := 36) (List.mem_cons_of_mem _ List.mem_cons_self)) 5)
   have M3 := hid ((L2.out.swap.setBlk 5 (.int .i64 (dN l k2 x2))).swap)
   generalize World.setCell _ _ _ = wc2 at *
   clear cc2 ff2 L2 CN2 M2 hvo2 hk2'
   obtain ⟨k3, ek3⟩ : ∃ v, Hid (v = dK l k2 x2) := ⟨_, hid rfl⟩
   obtain ⟨x3, ex3⟩ : ∃ v, Hid (v = dNX l k2 x2) := ⟨_, hid rfl⟩
   obtain ⟨C3, eC3⟩ : ∃ v, Hid (v = C2.set 5 (.int .i64 (dN l k2 x2))) := ⟨_, hid rfl⟩
   have hC3 : C3.length = 33 := by rw [eC3.out, List.length_set]; exact hC2
   have hk3 : k3 ≤ l.length := by rw [ek3.out]; exact LEK.out _ _ hk2
   rw [← ek3.out, ← ex3.out, ← eC3.out] at M3
   obtain ⟨CF, eCF⟩ : ∃ v, Hid (v = putL (Ev.zero 1).cells (tsK 1) (dRun (tsK 1) l k1 xw).1 [ptr 0, ptr 0]) := ⟨_, hid rfl⟩
   have FIN : Hid (C3 = CF ∧ [ptr 0, ptr 0].length = (dRun (tsK 1) l k1 xw).1.length ∧ (∀ W, All (rdB R (.slice (some ⟨g, 0, none⟩) l.length c) k3 x3 ::  cs) W → All (rdB R (.slice (some ⟨g, 0, none⟩) l.length c) (dRun (tsK 1) l k1 xw).2.1 (dRun (tsK 1) l k1 xw).2.2 :: (ownL (dRun (tsK 1) l k1 xw).1 [ptr 0, ptr 0] ++ cs)) W)) := hid (by
     rw [eCF.out]
     have h := eC3.out; subst h; have h := ek3.out; subst h; have h := ex3.out; subst h
     have h := eC2.out; subst h; have h := ek2.out; subst h; have h := ex2.out; subst h
     exact ⟨rfl, rfl, fun W h => h⟩)
   have hCF : CF.length = 33 := by rw [← FIN.out.1]; exact hC3
   have MF := M3
   rw [FIN.out.1] at MF
   have I36 : Hid ((Tryz.prog.info? 36).map (·.size) = some CF.toArray.size) := hid (by rw [List.size_toArray, hCF]; kernel_rfl)
   have Z36 : Hid ((Ev.zero 0).cells.toArray.size = CF.toArray.size) := hid ((show (Ev.zero 0).cells.toArray.size = 33 from rfl).trans (by rw [List.size_toArray, hCF]))
   have O36 : Hid (CF.toArray.all (·.oneCell') = true) := hid (all_oneCell_toArray (by
     rw [eCF.out]
     have h1 := FIN.out.2.2 _ ((MF.out.swap.tail).swap.tail)
     exact putL_one (zero_one _) h1.tail))
   have HB3 := hid (MF.out.blk (g := w.heap.size + 1) (t := 36) (List.mem_cons_of_mem _ List.mem_cons_self))
   have HBg := hid (MF.out.blk (g := w.heap.size) (t := 36) (List.mem_cons_of_mem _ (List.mem_cons_of_mem _ List.mem_cons_self)))
   have K6 := hid ((MF.out.perm (List.perm_middle (l₁ := [_, _]))).setRow (vs' := CF))
   clear M3 ek2 ex2 eC2 ek3 ex3 eC3 hC3
   go_wp2_with (first | (refine wpList_load_row rfl 36 _ rfl (w.heap.size + 1) rfl 36 CF.toArray (0, 0) _ HB3.out Tryz.underlying36 rfl I36.out ?_) | (refine wpList_store_row rfl 36 _ _ rfl w.heap.size CF.toArray rfl rfl 36 _ HBg.out I36.out Z36.out O36.out ?_))
   refine ret_evD rfl rfl (K6.out.blk List.mem_cons_self) hCF rfl ⟨[ptr 0, ptr 0], FIN.out.2.1, by rw [← eCF.out], FIN.out.2.2 _ K6.out.tail.swap.tail⟩
end Go.Proofs.YtfeppannfcbakaaGreatDoor

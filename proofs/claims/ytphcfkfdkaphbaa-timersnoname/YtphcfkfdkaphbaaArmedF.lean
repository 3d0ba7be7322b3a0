import Derived.Test.YtphcfkfdkaphbaaTabF
import Derived.RangeFuncNested
import Derived.RangeFuncBound
import Derived.RangeFuncCalls
import Derived.RangeFuncLeaves
import Derived.Shelf.Abstract
import Derived.Shelf.RegionOpen
import Derived.WalkKit
import Derived.OwnWalkIn
import Derived.TacticsInMore
import Derived.LoopNIn
import Derived.LoopIn
namespace Go.Proofs.Ytphcfkfdkaphbaa
open Go.RowKit Go.Shelf
attribute [local go_sem] Oper.semAt_some
set_option linter.unusedVariables false

theorem newcell (w : World) (v : Value) (t : TypeId) : (w.alloc (.cells #[v] t)).cell? ⟨w.heap.size, 0, none⟩ = some v := by
  rw [cell_at (heap_alloc_new w _)]
  rfl

theorem next0 {w : World} {r b c : Nat} (hr : w.heap[r]? = some (.mapIter (some b) c #[] c)) (hb : w.heap[b]? = some (.map #[] c)) (ty : TypeId) : (Instr.next (.pointer (some ⟨r, 0, none⟩)) false ty).run Try.prog w = .ok (.tuple #[.bool false]) w := by
  rcases run_next_at (P := Try.prog) w ty r b c c #[] #[] c hr hb (by simp) (by simp) with ⟨h0, hrun⟩ | ⟨e, he, _⟩
  · exact hrun
  · simp [leftOf] at he

set_option maxRecDepth 1000000 in
theorem keysF_stops {w : World} {Bm b c : Nat} (hBm : Bm < w.heap.size) (hm : w.cell? ⟨Bm, 0, none⟩ = some (.map (some b))) (hb : w.heap[b]? = some (.map #[] c)) (n : Nat) : SeqStopsK Fence.wide n Try.prog 73 #[.pointer (some ⟨Bm, 0, none⟩)] (fun _ : Unit => #[.float .f64 0]) KeepsWalks (fun xs => xs = []) (fun _ => False) 0 w := fun l J Jx W hW hJ hJx hY h0 => by
  have hbl := (Array.getElem?_eq_some_iff.1 hb).1
  have hm' := (hW.cell (p := ⟨Bm, 0, none⟩) hBm).trans hm
  have hb' := (hW.block b hbl).trans hb
  have hbl' := (Array.getElem?_eq_some_iff.1 hb').1
  have hrange := run_range_map (P := Try.prog) W 112 67 3 b #[] c Try.und112 hb'
  have hnext := next0 (MapKept.heap_alloc W (.mapIter (some b) c #[] c)).1 (((MapKept.heap_alloc W (.mapIter (some b) c #[] c)).2 b hbl').trans hb')
  have J2 := hid (hJ [] W _ none h0 (World.grownBy_alloc W (.mapIter (some b) c #[] c) none) (fun r e => by cases e))
  generalize W.alloc (.mapIter (some b) c #[] c) = W2 at *
  clear hY hJ hJx hW h0
  refine callsIn_wide.2 ?_
  show Calls Try.prog 73 #[.func (.yield l) #[] #[], .pointer (some ⟨Bm, 0, none⟩)] W _
  go_enter Try.func73, Try.ntmps73
  go_wp2
  go_loopw [3] (fun _ wr => wr = W2) (fun _ _ => 0)
  case atStart => rfl
  case round =>
    subst hrel
    go_wp2
    go_end0
    exact ⟨⟨_, rfl⟩, .inl ⟨[], rfl, J2.out⟩⟩

set_option maxRecDepth 1000000 in
theorem insF_nil {w : World} : Calls Try.prog 112 #[.slice none 0 0, .int .i64 0, .int .i64 0] w fun e w' => e = .returned (.tuple #[]) ∧ w' = w := by
  go_enter Try.func112, Try.ntmps112
  go_wp2
  refine wp_loop_rounds 1 ?_
  rw [rounds_succ]
  go_wp2
  go_end0
  exact ⟨rfl, rfl⟩

set_option maxRecDepth 1000000 in
theorem pdqF_nil {w : World} (lim : Int) : Calls Try.prog 99 #[.slice none 0 0, .int .i64 0, .int .i64 0, .int .i64 lim] w fun e w' => e = .returned (.tuple #[]) ∧ w' = w := by
  go_enter Try.func99, Try.ntmps99
  go_wp2_with fail
  refine wp_loop_rounds 1 ?_
  rw [rounds_succ]
  go_wp2_with fail
  refine insF_nil.mono ?_
  rintro e w1 ⟨rfl, rfl⟩
  go_wp2
  (try simp only [Exit.inBlock, Exit.then])
  refine bodyPost_ret (results_none rfl _ _ _) rfl ?_
  exact ⟨rfl, rfl⟩

set_option maxRecDepth 1000000 in
theorem lenF63 {w : World} : Calls Try.prog 63 #[.int .u64 0] w fun e w' => ∃ n, e = .returned (.int .i64 n) ∧ w' = w := by
  go_enter Try.func63, Try.ntmps63
  go_wp2
  go_ret
  exact ⟨_, rfl, rfl⟩

set_option maxRecDepth 1000000 in
theorem sortF_nil {w : World} : Calls Try.prog 72 #[.slice none 0 0] w fun e w' => e = .returned (.tuple #[]) ∧ w' = w := by
  go_enter Try.func72, Try.ntmps72
  go_wp2_with fail
  refine lenF63.mono ?_
  rintro e w1 ⟨n, rfl, rfl⟩
  go_wp2_with fail
  refine (pdqF_nil n).mono ?_
  rintro e w1 ⟨rfl, rfl⟩
  go_wp2
  go_end0
  exact ⟨rfl, rfl⟩

set_option maxRecDepth 1000000 in
theorem appendF {w : World} {Bm b c : Nat} (hBm : Bm < w.heap.size) (hm : w.cell? ⟨Bm, 0, none⟩ = some (.map (some b))) (hb : w.heap[b]? = some (.map #[] c)) : Calls Try.prog 98 #[.slice none 0 0, .func (.func 73) #[] #[.pointer (some ⟨Bm, 0, none⟩)]] w fun e w' => e = .returned (.slice none 0 0) ∧ Below w.heap.size w w' := by
  refine (callsIn_wide (n := 3)).1 ?_
  refine callsIn_of_wp_marks Try.func98 rfl trivial ?_ rfl
  simp only [Try.ntmps98, List.size_toArray, List.length_cons, List.length_nil, Nat.reduceAdd, Nat.reduceSub, Array.replicate_succ, Array.replicate_zero, List.push_toArray, List.append_toArray, List.nil_append, List.cons_append]
  gi_wp2
  have hbl := (Array.getElem?_eq_some_iff.1 hb).1
  have hba := Below.refl w.heap.size w |>.alloc (Nat.le_refl _) (.cells #[.slice none 0 0] 72)
  refine wpIn_rangeFunc_ownF rfl (by omega) (gf := 73) (lb := #[.pointer (some ⟨Bm, 0, none⟩)]) rfl trivial (enters_of Try.func73 (by kernel_rfl) rfl)
    (keysF_stops (w := w.alloc (.cells #[.slice none 0 0] 72)) (b := b) (c := c) (by simp; omega) ((hba.cell (p := ⟨Bm, 0, none⟩) hBm).trans hm) ((hba.block b hbl).trans hb) _) walksK_t walksK_b (Below.refl _ _) (fun _ => rfl)
    (fun _ W => W.cell? ⟨w.heap.size, 0, none⟩ = some (.slice none 0 0) ∧ Below w.heap.size w W) (fun _ _ _ => False)
    (OwnFrom.and (Own.from (fun s A B row hs hg hr => cell_kept hs hg hr) _) (ownFrom_below (Nat.le_refl _) (by simp)))
    (fun _ _ _ _ _ hs _ _ => hs)
    ⟨newcell w (.slice none 0 0) 72, hba⟩
    (fun x => { tmps := #[.slice none 0 0, .func (.func 73) #[] #[.pointer (some ⟨Bm, 0, none⟩)], .pointer (some ⟨w.heap.size, 0, none⟩), undef, .slice none 0 0, .float .f64 0, .func (.func 73) #[] #[.pointer (some ⟨Bm, 0, none⟩)], .float .f64 0, undef, undef, undef, undef, undef], defers := [] }) ?assign ?body ?done ?stop
  case assign =>
    intro l x W K hK
    gi_wp2
    exact hK
  case body =>
    intro l pre x W _ hl
    omega
  case done =>
    rintro D ys W hD _ ⟨hc, hB⟩ hK
    gi_wp2
    refine ⟨by simp, .inl ⟨_, _, rfl, run_takeDeferred hK, ?_⟩⟩
    exact ⟨_, results_tmp rfl _ _ _, rfl, hB.trans (belowK_b (w := w) (Nat.le_refl _) W D _ _ (by simp at hD; omega) hK rfl rfl)⟩
  case stop =>
    rintro D c pre W _ h _ _
    exact h.elim

set_option maxRecDepth 1000000 in
theorem collectF {w : World} {Bm b c : Nat} (hBm : Bm < w.heap.size) (hm : w.cell? ⟨Bm, 0, none⟩ = some (.map (some b))) (hb : w.heap[b]? = some (.map #[] c)) : Calls Try.prog 71 #[.func (.func 73) #[] #[.pointer (some ⟨Bm, 0, none⟩)]] w fun e w' => e = .returned (.slice none 0 0) ∧ Below w.heap.size w w' := by
  have H := hid (appendF hBm hm hb)
  clear hBm hm hb
  go_enter Try.func71, Try.ntmps71
  go_wp2_with fail
  refine H.out.mono ?_
  rintro e w1 ⟨rfl, hb1⟩
  go_wp2
  go_ret
  exact ⟨rfl, hb1⟩

set_option maxRecDepth 1000000 in
theorem sortedF {w : World} {Bm b c : Nat} (hBm : Bm < w.heap.size) (hm : w.cell? ⟨Bm, 0, none⟩ = some (.map (some b))) (hb : w.heap[b]? = some (.map #[] c)) : Calls Try.prog 60 #[.func (.func 73) #[] #[.pointer (some ⟨Bm, 0, none⟩)]] w fun e w' => e = .returned (.slice none 0 0) ∧ Below w.heap.size w w' := by
  have H := hid (collectF hBm hm hb)
  clear hBm hm hb
  go_enter Try.func60, Try.ntmps60
  go_wp2_with fail
  refine H.out.mono ?_
  rintro e w1 ⟨rfl, hb1⟩
  go_wp2_with fail
  refine sortF_nil.mono ?_
  rintro e w2 ⟨rfl, rfl⟩
  go_wp2
  go_ret
  exact ⟨rfl, hb1⟩

theorem KeysF {w : World} (b : Nat) : Calls Try.prog 61 #[.map (some b)] w fun e w' => e = .returned (.func (.func 73) #[] #[.pointer (some ⟨w.heap.size, 0, none⟩)]) ∧ w' = w.alloc (.cells #[.map (some b)] 112) := by
  go_enter Try.func61, Try.ntmps61
  go_wp2
  go_ret
  exact ⟨rfl, rfl⟩

set_option maxRecDepth 1000000 in
theorem ArmedF {w0 w : World} {P b c : Nat} (h : TF w0 P b #[] c w) : Calls Try.prog 30 #[.pointer (some ⟨P, 0, none⟩)] w fun e w' => e = .returned (.slice none 0 0) ∧ Below w0.heap.size w0 w' := by
  have c0 := h.cell
  have H := hid h
  clear h
  go_enter Try.func30, Try.ntmps30
  go_wp2_with fail
  refine (KeysF b).mono ?_
  rintro e w1 ⟨rfl, rfl⟩
  have hbl := (Array.getElem?_eq_some_iff.1 H.out.map).1
  go_wp2_with fail
  refine (sortedF (by simp) (newcell w (.map (some b)) 112) ((Below.heap_alloc _ _ b hbl).trans H.out.map)).mono ?_
  rintro e w1 ⟨rfl, hb1⟩
  go_wp2
  go_ret
  exact ⟨rfl, (H.out.bel.alloc H.out.bel.size _).trans (hb1.mono (by have := H.out.bel.size; simp; omega))⟩
end Go.Proofs.Ytphcfkfdkaphbaa

import Derived.Test.YtkaigmoeagjjgaaSrt
import Derived.RangeFuncBox
import Derived.RangeFuncLeaves
import Derived.RangeFuncCalls
import Derived.RangeFuncNested
import Derived.Shelf.Abstract
import Derived.Shelf.RegionOpen
import Derived.OwnWalkIn
import Derived.TacticsInMore
import Derived.LoopNIn
import Derived.LoopIn
namespace Go.Proofs.Ytkaigmoeagjjgaa
open Go.RowKit
attribute [local go_sem] Oper.semAt_some
set_option linter.unusedVariables false

/-- A slice of numbers in a block below. -/
def IntsIn (n₀ : Nat) (W : World) (sv : Value) (zs : List Int) : Prop :=
  ∃ ao cap, sv = .slice ao zs.length cap ∧ zs.length ≤ cap ∧ (zs = [] ∨ ∃ b off, ao = some ⟨b, off, none⟩ ∧ b < n₀ ∧ ∀ j u, (ints zs)[j]? = some u → W.cell? ⟨b, off + j, none⟩ = some u)
theorem IntsIn.below {n₀ : Nat} {A B : World} (h : Below n₀ A B) {sv : Value} {zs : List Int} : IntsIn n₀ A sv zs → IntsIn n₀ B sv zs := by
  rintro ⟨ao, cap, e, hc, h1 | ⟨b, off, e2, hb, h1⟩⟩
  · exact ⟨ao, cap, e, hc, .inl h1⟩
  · exact ⟨ao, cap, e, hc, .inr ⟨b, off, e2, hb, fun j u hu => (h.cell (p := ⟨b, off + j, none⟩) hb).trans (h1 j u hu)⟩⟩
theorem IntsAt.in {w : World} {v : Value} {zs : List Int} (h : IntsAt w v zs) : IntsIn w.heap.size w v zs := by
  obtain ⟨ao, cap, e, hc, ⟨h1, _⟩ | ⟨b, off, e2, hb, h1⟩⟩ := h
  · exact ⟨ao, cap, e, hc, .inl h1⟩
  · exact ⟨ao, cap, e, hc, .inr ⟨b, off, e2, hb, h1⟩⟩
theorem IntsIn.at {n₀ : Nat} {w : World} {ao : Option Addr} {n c : Nat} {xs : List Int} (h : IntsIn n₀ w (.slice ao n c) xs) {i : Nat} {x : Int} (hx : xs[i]? = some x) : ∃ b off, ao = some ⟨b, off, none⟩ ∧ b < n₀ ∧ w.cell? ⟨b, off + i, none⟩ = some (.int .i64 x) := by
  obtain ⟨ao', c', e, _, rfl | ⟨b, off, rfl, hb, hc⟩⟩ := h
  · simp at hx
  · simp only [Value.slice.injEq] at e
    obtain ⟨rfl, _, _⟩ := e
    exact ⟨b, off, rfl, hb, hc i _ (by simp [hx])⟩

set_option maxRecDepth 100000 in
set_option maxHeartbeats 2000000 in
theorem values47 {n l Bs n₀ : Nat} {ao : Option Addr} {cap : Nat} {zs : List Int} (hn : 1 ≤ n) (hz : zs.length ≤ 1048576) (J Jx : List Int → World → Prop)
    (hY : ∀ pre x W, J pre W → pre.length < zs.length → YieldAt Fence.wide (n - 1) Try.prog l #[.int .i64 x] W fun e W' =>
      (e = .returned (.bool true) ∧ J (pre ++ [x]) W' ∧ Below n₀ W W') ∨ (e = .returned (.bool false) ∧ Jx (pre ++ [x]) W'))
    (W : World) (hBs : W.cell? ⟨Bs, 0, none⟩ = some (.slice ao zs.length cap)) (hc : IntsIn n₀ W (.slice ao zs.length cap) zs) (h0 : J [] W) :
    CallsIn Fence.wide n Try.prog 47 #[.func (.yield l) #[] #[], .pointer (some ⟨Bs, 0, none⟩)] W fun e W' => (∃ v, e = .returned v) ∧
      ((∃ ys, ys = zs ∧ J ys W') ∨ (∃ pre, pre <+: zs ∧ Jx pre W')) := by
  have hcap : zs.length ≤ cap := by
    obtain ⟨_, _, e, h, _⟩ := hc
    simp only [Value.slice.injEq] at e; omega
  refine callsIn_of_wp Try.func47 rfl trivial ?_ rfl
  simp only [Try.ntmps47, List.size_toArray, List.length_cons, List.length_nil, Nat.reduceAdd, Nat.reduceSub, Array.replicate_succ, Array.replicate_zero, List.push_toArray, List.append_toArray, List.nil_append, List.cons_append]
  have HC := hid hc
  clear hc
  gi_wp2
  gi_loopw [7] (fun i wr => ∃ k : Nat, k ≤ zs.length ∧ i = .int .i64 k ∧ J (zs.take k) wr ∧ Below n₀ W wr)
    (fun i _ => zs.length - (intOf i).toNat)
  case atStart => exact ⟨0, Nat.zero_le _, rfl, h0, Below.refl _ _⟩
  case round =>
    obtain ⟨k, hk, rfl, hJs, hnx⟩ := hrel
    by_cases hlt : k < zs.length
    · obtain ⟨x, hx⟩ : ∃ x, zs[k]? = some x := ⟨_, List.getElem?_eq_getElem hlt⟩
      obtain ⟨b, off, rfl, hb, hcx⟩ := (HC.out.below hnx).at hx
      obtain ⟨fn, tmps, assign, body, hy, hR⟩ := hY _ x wr hJs (by rw [List.length_take]; omega)
      have ht := hid (show zs.take (k + 1) = zs.take k ++ [x] from take_snoc hx)
      clear hx
      gi_wp2
      refine hR.mono ?_
      rintro e W3 (⟨rfl, hJ3, hk3⟩ | ⟨rfl, hJx3⟩)
      · gi_wp2
        go_roundw
        case rel => exact ⟨k + 1, by omega, by simp, by rw [ht.out]; exact hJ3, hnx.trans hk3⟩
        case measure => simp [intOf]; omega
      · gi_wp2
        refine bodyPost_ret (results_none rfl _ _ _) rfl ?_
        exact ⟨⟨_, rfl⟩, .inr ⟨_, by rw [← ht.out]; exact List.take_prefix _ _, hJx3⟩⟩
    · obtain rfl : k = zs.length := by omega
      rw [List.take_length] at hJs
      gi_wp2
      go_end0
      exact ⟨⟨_, rfl⟩, .inl ⟨_, rfl, hJs⟩⟩

theorem values_stops {n Bs n₀ : Nat} {ao : Option Addr} {cap : Nat} {zs : List Int} {w : World} (hn : 1 ≤ n) (hz : zs.length ≤ 1048576) (hBs : Bs < w.heap.size) (hn₀ : n₀ ≤ w.heap.size)
    (hc : w.cell? ⟨Bs, 0, none⟩ = some (.slice ao zs.length cap)) (hI : IntsIn n₀ w (.slice ao zs.length cap) zs) :
    SeqStopsK Fence.wide n Try.prog 47 #[.pointer (some ⟨Bs, 0, none⟩)] (fun x : Int => #[Value.int .i64 x]) (Below n₀) (fun ys => ys = zs) (fun pre => pre <+: zs) zs.length w := fun l J Jx W hW _ _ hY h0 =>
  values47 hn hz J Jx hY W ((hW.cell (p := ⟨Bs, 0, none⟩) hBs).trans hc) (hI.below (hW.mono hn₀)) h0

theorem values_any {w : World} {ao : Option Addr} {len cap : Nat} : Calls Try.prog 35 #[.slice ao len cap] w fun e w' => e = .returned (.func (.func 47) #[] #[.pointer (some ⟨w.heap.size, 0, none⟩)]) ∧ w' = w.alloc (.cells #[.slice ao len cap] 22) := by
  go_enter Try.func35, Try.ntmps35
  go_wp2
  go_ret
  exact ⟨rfl, rfl⟩
end Go.Proofs.Ytkaigmoeagjjgaa

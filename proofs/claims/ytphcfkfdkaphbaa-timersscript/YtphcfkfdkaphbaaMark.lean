import Derived.Test.YtphcfkfdkaphbaaHeld
import Derived.Lib.SlBytesConst
namespace Go.Proofs.Ytphcfkfdkaphbaa
open Go.RowKit
set_option linter.unusedVariables false

theorem Try.info5 : (Try.prog.info? 5).map (fun i => (i.zero, i.size, i.bytes)) = some (some (.int .u8 0), 1, 1) := by kernel_rfl
/-- Bytes that are on their way. -/
def BR (w wr : World) (bv : Value) (k : Nat) : Prop := ∃ (g cap : Nat) (xs : List Int), bv = .slice (some ⟨g, 0, none⟩) k cap ∧ xs.length = k ∧ (∀ i, i < k → wr.cell? ⟨g, i, none⟩ = some (.int .u8 (xs.getD i 0))) ∧ Below w.heap.size w wr ∧ ((cap = k ∧ g < wr.heap.size) ∨ wr.ownsRow w.heap.size 5 1 bv k (xs.map (Value.int .u8)))
set_option maxRecDepth 100000 in
theorem BR.grow {w wr : World} {bv : Value} {k : Nat} (h : BR w wr bv k) (z : Int) (hk : k ≤ 4398046511104) : ∃ v' w', (Builtin.append_ #[124, 124] 124 #[bv, .slice (some ⟨wr.heap.size, 0, none⟩) 1 1]).run Try.prog (wr.alloc (.cells #[.int .u8 z] 5)) = .ok v' w' ∧ BR w w' v' (k + 1) := by
  obtain ⟨g, cap, xs, rfl, hl, hc, hb, hor⟩ := h
  obtain ⟨i1, hi1, hz0, hz1, hz2⟩ := info_parts Try.info5
  have hnews : ∀ j u, [Value.int .u8 z][j]? = some u → (wr.alloc (.cells #[.int .u8 z] 5)).cell? ((⟨wr.heap.size, 0, none⟩ : Addr).add j) = some u := fun j u hu => by
    rw [Addr.add_lit, Nat.zero_add, cell_at (heap_alloc_new wr _)]
    exact (List.getElem?_toArray (xs := [Value.int .u8 z]) ..).trans hu
  have hb2 : Below w.heap.size w (wr.alloc (.cells #[.int .u8 z] 5)) := below2 hb (ba wr _)
  have key : ∀ (v' : Value) (w' : World), w'.ownsRow w.heap.size 5 1 v' (k + 1) ((xs ++ [z]).map (Value.int .u8)) → Below w.heap.size w w' → BR w w' v' (k + 1) := fun v' w' ho hbw => by
    rcases ho.2 with ⟨_, e⟩ | ⟨g', cap', cur, rfl, h1, h2, h3, h4, h5, h6⟩
    · omega
    · refine ⟨g', cap', xs ++ [z], rfl, by simp [hl], fun i hi => ?_, hbw, .inr ho⟩
      rw [cell_at h2, ← Array.getElem?_toList]
      have e1 : (cur.toList.take ((k + 1) * 1))[i]? = ((xs ++ [z]).map (Value.int .u8))[i]? := by rw [h6]
      rw [List.getElem?_take, if_pos (by omega)] at e1
      rw [e1, List.getElem?_map]
      have hi2 : i < (xs ++ [z]).length := by simp; omega
      simp [List.getD, List.getElem?_eq_getElem hi2]
  rcases hor with ⟨rfl, hg⟩ | ho
  · have holds : ∀ j v, (xs.map (Value.int .u8))[j]? = some v → (wr.alloc (.cells #[.int .u8 z] 5)).cell? ((⟨g, 0, none⟩ : Addr).add j) = some v := fun j v hv => by
      have hj : j < xs.length := by have := (List.getElem?_eq_some_iff.1 hv).1; simpa using this
      rw [Addr.add_lit, Nat.zero_add]
      refine cell_under (ba wr _) hg ?_
      rw [hc j (by omega), ← hv]
      simp [List.getD, List.getElem?_eq_getElem hj]
    have hr := run_append_grow (P := Try.prog) (wr.alloc (.cells #[.int .u8 z] 5)) 124 124 5 i1 (.int .u8 0) Try.underlying124 hi1 hz0 ⟨g, 0, none⟩ cap cap (xs.map (Value.int .u8)) (by rw [List.length_map, hl, hz1, Nat.mul_one]) holds ⟨wr.heap.size, 0, none⟩ 1 1 [.int .u8 z] (by rw [hz1]; rfl) hnews (by omega) (by omega) (by
      rw [hz2, Nat.mul_one]
      have := nextslicecap_le (show cap < cap + 1 by omega)
      omega)
    refine ⟨_, _, hr, key _ _ ⟨by simp [hl], .inr ⟨_, _, _, rfl, ?_, heap_alloc_new _ _, grownCap_ge _ _ _ _, grownCap_le_maxLen _ _ _ _ (by unfold maxLen; omega), ?_, ?_⟩⟩ ?_⟩
    · exact Nat.le_trans hb2.size (by simp)
    · simp only [Array.size_append, List.size_toArray, size_zeroCells, List.length_map, hl, List.length_singleton]
      have := grownCap_ge (wr.alloc (.cells #[.int .u8 z] 5)) (cap + 1) cap 5
      show cap + 1 + (grownCap _ (cap + 1) cap 5 - (cap + 1)) * 1 = grownCap _ (cap + 1) cap 5 * 1
      omega
    · simp only [Array.toList_append, List.map_append, List.map_cons, List.map_nil]
      have e : (cap + 1) * 1 = (xs.map (Value.int .u8) ++ [Value.int .u8 z]).length := by simp [hl]
      rw [e]
      exact List.take_left
    · exact below2 hb2 (below2 (bd _) (ba _ _))
  · have ho2 : (wr.alloc (.cells #[.int .u8 z] 5)).ownsRow w.heap.size 5 1 (.slice (some ⟨g, 0, none⟩) k cap) k (xs.map (Value.int .u8)) := by
      refine ⟨ho.1, ?_⟩
      rcases ho.2 with hn | ⟨g', cap', cur, e, h1, h2, rest⟩
      · exact .inl hn
      · exact .inr ⟨g', cap', cur, e, h1, (Below.heap_alloc _ _ _ (Array.getElem?_eq_some_iff.1 h2).1).trans h2, rest⟩
    obtain ⟨v', w', hr, h2, h3, h4, h5⟩ := run_append_own_at (P := Try.prog) (wr.alloc (.cells #[.int .u8 z] 5)) w.heap.size 124 124 5 i1 _ 1 1 Try.underlying124 hi1 hz0 hz1 hz2 rfl (by decide) _ k _ ho2 ⟨wr.heap.size, 0, none⟩ 1 1 [.int .u8 z] rfl hnews (fun u hu => by rw [List.mem_singleton.1 hu]; rfl) (by unfold maxLen; omega) (by omega) hb2.size
    refine ⟨v', w', hr, key v' w' (by rw [List.map_append]; exact h2) ?_⟩
    refine ⟨h3.os.trans hb2.os, h3.tape.trans hb2.tape, h3.output.trans hb2.output, Nat.le_trans hb2.size h3.size, fun j hj => ?_⟩
    rw [h3.block j (Nat.lt_of_lt_of_le hj hb2.size) (fun e => ?_)]
    · exact hb2.block j hj
    · have := (World.ownsRow.lt ho2 j e.symm).1
      omega
theorem BR.text {w wr : World} {bv : Value} {k : Nat} (h : BR w wr bv k) : ∃ s, (convert 124 9 bv).run Try.prog wr = .ok (.string s) wr := by
  obtain ⟨g, cap, xs, rfl, hl, hc, _⟩ := h
  exact ⟨_, run_convert_bytes_arg (P := Try.prog) wr 124 5 Try.underlying124 Try.underlying5 g 0 k cap xs hl (fun i hi => by rw [Nat.zero_add]; exact hc i hi) 9 Try.underlying9⟩

set_option maxHeartbeats 800000 in
set_option maxRecDepth 1000000 in
theorem mark_any {w : World} (n : Nat) (hn : n ≤ 2932031007400) : Calls Try.prog 45 #[.int .i64 (n : Int)] w fun e w' => ∃ s, e = .returned (.string s) ∧ Below w.heap.size w w' := by
  have kc : (convert 124 124 (.slice (some ⟨w.heap.size, 0, none⟩) 1 1)).run Try.prog (w.alloc (.cells #[.int .u8 42] 5)) = .ok (.slice (some ⟨w.heap.size, 0, none⟩) 1 1) (w.alloc (.cells #[.int .u8 42] 5 (1, 2))) := Lib.run_convert_bytes_const (P := Try.prog) w 124 5 #[.int .u8 42] 1 1 Try.underlying124 Try.underlying5
  have B0 : Hid (BR w (w.alloc (.cells #[.int .u8 42] 5 (1, 2))) (.slice (some ⟨w.heap.size, 0, none⟩) 1 1) 1) := hid ⟨w.heap.size, 1, [42], rfl, rfl, fun i hi => by
    have : i = 0 := by omega
    subst this
    rw [cell_at (heap_alloc_new w _)]; rfl, ba w _, .inl ⟨rfl, by simp⟩⟩
  go_enter Try.func45, Try.ntmps45
  go_wp2
  generalize (w.alloc (.cells #[.int .u8 42] 5 (1, 2))) = w1 at B0 ⊢
  generalize (Value.slice (some ⟨w.heap.size, 0, none⟩) 1 1) = v1 at B0 ⊢
  clear kc
  go_loopw [0, 3] (fun nv bv wr => ∃ (m k : Nat), nv = .int .i64 (m : Int) ∧ m + k ≤ n + 1 ∧ Hid (BR w wr bv k)) (fun nv _ _ => (intOf nv).toNat)
  case atStart => exact ⟨n, 1, rfl, by omega, B0⟩
  case round =>
    clear B0
    obtain ⟨m, k, rfl, hmk, HB⟩ := hrel
    by_cases hm : 0 < m
    · have l1 : decide ((0 : Int) < (m : Int)) = true := decide_eq_true (by omega)
      have l2 : (0 : Int) < (m : Int) := by omega
      obtain ⟨v', w', hr, HB2⟩ := HB.out.grow (48 + (m : Int) % 10) (by omega)
      have HR := hid hr
      have HB3 := hid HB2
      obtain ⟨g, cap, xs, rfl, _, _, hbw, _⟩ := HB.out
      clear HB hbw hr HB2
      go_wp2_with (at_builtin; refine wpList_append_run rfl (.tmp 10) (.tmp 15) 124 rfl _ _ _ _ rfl rfl HR.out ?_)
      go_roundw
      · exact ⟨m / 10, k + 1, by simp, by omega, HB3⟩
      · simp [intOf]; omega
    · have l1 : decide ((0 : Int) < (m : Int)) = false := decide_eq_false (by omega)
      have l2 : ¬ (0 : Int) < (m : Int) := by omega
      obtain ⟨s, hs⟩ := HB.out.text
      obtain ⟨g, cap, xs, rfl, _, _, hbw, _⟩ := HB.out
      have HBW := hid hbw
      clear HB hbw
      go_wp2
      go_ret
      exact ⟨⟨s, rfl⟩, HBW.out⟩
end Go.Proofs.Ytphcfkfdkaphbaa

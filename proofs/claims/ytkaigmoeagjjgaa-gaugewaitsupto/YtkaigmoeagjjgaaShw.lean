import Derived.Test.YtkaigmoeagjjgaaSam
namespace Go.Proofs.Ytkaigmoeagjjgaa
open Go.RowKit
attribute [local go_sem] run_store_float
set_option linter.unusedVariables false

theorem heap_alloc_new' (w : World) (o : Obj) : (w.alloc o).heap[w.heap.size]? = some o := World.alloc_heap_new w o
theorem sm8 : Sm [2, 4, 4, 4, 5, 5, 7, 9] := by unfold Sm; decide
theorem Of_ex {w : World} {b : Nat} (h : w.heap[b]? = some (.cells #[.int .i64 2, .int .i64 4, .int .i64 4, .int .i64 4, .int .i64 5, .int .i64 5, .int .i64 7, .int .i64 9] 3 (0, 0))) : Calls Try.prog 11 #[.slice (some ⟨b, 0, none⟩) 8 8] w fun e w' => e = .returned (.tuple #[.agg #[.int .i64 8, .int .i64 2, .int .i64 9, .float .f64 4617315517961601024, .float .f64 4611686018427387904], .int .i64 0]) ∧ Below w.heap.size w w' := by
  have hi : IntsAt w (.slice (some ⟨b, 0, none⟩) 8 8) [2, 4, 4, 4, 5, 5, 7, 9] := ints_at_blk (xs := [2, 4, 4, 4, 5, 5, 7, 9]) h (Nat.le_refl _)
  have := Of_ok hi sm8 (by decide) (by decide)
  rw [ex_mean, ex_dev, ex_min, ex_max] at this
  exact this
theorem Share_ex {w : World} {b : Nat} (h : w.heap[b]? = some (.cells #[.int .i64 5, .int .i64 1, .int .i64 9, .int .i64 3] 3 (0, 0))) : Calls Try.prog 15 #[.slice (some ⟨b, 0, none⟩) 4 4, .float .f64 4602678819172646912] w fun e w' => e = .returned (.tuple #[.int .i64 3, .int .i64 0]) ∧ Below w.heap.size w w' := by
  have hi : IntsAt w (.slice (some ⟨b, 0, none⟩) 4 4) [5, 1, 9, 3] := ints_at_blk (xs := [5, 1, 9, 3]) h (Nat.le_refl _)
  refine (Share_ok hi (by decide) (by decide) (by decide) ex_half).mono ?_
  rintro e w' ⟨r, rfl, hs, hb⟩
  obtain rfl := ex_share hs
  exact ⟨rfl, hb⟩
theorem Bars_ex {w : World} {b b2 : Nat} (h : w.heap[b]? = some (.cells #[.int .i64 1, .int .i64 5, .int .i64 5, .int .i64 9] 3 (0, 0))) (h2 : w.heap[b2]? = some (.cells #[.int .i64 5, .int .i64 8] 3 (0, 0))) : Calls Try.prog 17 #[.slice (some ⟨b, 0, none⟩) 4 4, .slice (some ⟨b2, 0, none⟩) 2 2] w fun e w' => ∃ v, e = .returned (.tuple #[v, .int .i64 0]) ∧ (∃ ao c, v = .slice ao 3 c) ∧ IntsAt w' v [1, 2, 1] ∧ Below w.heap.size w w' := by
  have hi : IntsAt w (.slice (some ⟨b, 0, none⟩) 4 4) [1, 5, 5, 9] := ints_at_blk (xs := [1, 5, 5, 9]) h (Nat.le_refl _)
  have hi2 : IntsAt w (.slice (some ⟨b2, 0, none⟩) 2 2) [5, 8] := ints_at_blk (xs := [5, 8]) h2 (Nat.le_refl _)
  refine (Bars_any hi hi2 (by decide) (by decide)).mono ?_
  rintro e w' (⟨_, v, rfl, hA⟩ | ⟨h, _⟩)
  · rw [ex_bars] at hA
    have := ints_of_all hA
    exact ⟨v, rfl, this.form, this, inC_of hA (by simp)⟩
  · exact absurd ex_ris h

theorem new1 (w : World) (o p : Obj) : ((w.alloc o).alloc p).heap[w.heap.size + 1]? = some p := by
  have := heap_alloc_new' (w.alloc o) p
  rwa [World.size_alloc] at this
theorem new0 (w : World) (o p : Obj) : ((w.alloc o).alloc p).heap[w.heap.size]? = some o := (Below.heap_alloc _ _ _ (by simp)).trans (heap_alloc_new' w o)
set_option maxHeartbeats 2000000 in
theorem shown_any {w : World} : Calls Try.prog 9 #[] w fun e w' => e = .returned (.bool true) ∧ Below w.heap.size w w' := by
  have o5 : (FloatKind.f64.format.order 4617315517961601024 4617315517961601024 != some .eq) = false := by decide +kernel
  have o2 : (FloatKind.f64.format.order 4611686018427387904 4611686018427387904 != some .eq) = false := by decide +kernel
  go_enter Try.func9, Try.ntmps9
  go_wp2_with fail
  refine (Of_ex (heap_alloc_new _ _)).mono ?_
  rintro e w1 ⟨rfl, hb1⟩
  have HB1 := hid ((ba w _).trans (hb1.mono (by simp)))
  clear hb1
  go_wp2_with fail
  refine (Share_ex (new1 _ _ _)).mono ?_
  rintro e w2 ⟨rfl, hb2⟩
  have HB2 := hid (((ba w1 _).trans ((ba _ _).mono (by simp))).trans (hb2.mono (by simp; omega)))
  clear hb2
  go_wp2_with fail
  refine (Bars_ex (new0 _ _ _) (new1 _ _ _)).mono ?_
  rintro e w3 ⟨v, rfl, ⟨ao, c, rfl⟩, hv, hb3⟩
  have HB3 := hid (((ba w2 _).trans ((ba _ _).mono (by simp))).trans (hb3.mono (by simp; omega)))
  have HV := hid hv
  clear hb3 hv
  go_wp2_with fail
  refine (sameInts_any (HV.out.later (ba _ _)) (ints_at_blk (xs := [1, 2, 1]) (heap_alloc_new' _ _) (Nat.le_refl _)) (by decide)).mono ?_
  rintro e w4 ⟨rfl, q, rfl⟩
  have HB4 := hid ((ba w3 (.cells #[.int .i64 1, .int .i64 2, .int .i64 1] 3)).trans ((bdN _ q).mono (by simp)))
  go_wp2
  go_ret
  have s1 := HB1.out.size
  have s2 := HB2.out.size
  have s3 := HB3.out.size
  exact ⟨rfl, ((HB1.out.trans (HB2.out.mono s1)).trans (HB3.out.mono (Nat.le_trans s1 s2))).trans (HB4.out.mono (Nat.le_trans s1 (Nat.le_trans s2 s3)))⟩
end Go.Proofs.Ytkaigmoeagjjgaa

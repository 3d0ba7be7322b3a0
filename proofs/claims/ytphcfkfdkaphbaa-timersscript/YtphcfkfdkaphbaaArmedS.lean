import Derived.Test.YtphcfkfdkaphbaaTickS
import Derived.Shelf.SlIter.Nil
import Derived.Shelf.SlIter.Sorted
import Derived.Shelf.SlMaps.Clone
import Derived.Ground.GgzProg
import Derived.Ground.SlmcProg
namespace Go.Proofs.Ytphcfkfdkaphbaa
open Go.RowKit Go.Maps Go.Sort Go.Shelf
set_option linter.unusedVariables false

set_option maxRecDepth 1000000 in
theorem insS_none {w : World} (p : Option Addr) (cap : Nat) : Calls Try.prog 74 #[.slice p 0 cap, .int .i64 0, .int .i64 0] w fun e w' => e = .returned (.tuple #[]) ∧ w' = w := by
  go_enter Try.func74, Try.ntmps74
  go_wp2
  refine wp_loop_rounds 1 ?_
  rw [rounds_succ]
  go_wp2
  go_end0
  exact ⟨rfl, rfl⟩

set_option maxRecDepth 1000000 in
theorem pdqS_none {w : World} (p : Option Addr) (cap : Nat) (lim : Int) : Calls Try.prog 62 #[.slice p 0 cap, .int .i64 0, .int .i64 0, .int .i64 lim] w fun e w' => e = .returned (.tuple #[]) ∧ w' = w := by
  go_enter Try.func62, Try.ntmps62
  go_wp2_with fail
  refine wp_loop_rounds 1 ?_
  rw [rounds_succ]
  go_wp2_with fail
  refine (insS_none p cap).mono ?_
  rintro e w1 ⟨rfl, rfl⟩
  go_wp2
  (try simp only [Exit.inBlock, Exit.then])
  refine bodyPost_ret (results_none rfl _ _ _) rfl ?_
  exact ⟨rfl, rfl⟩

set_option maxRecDepth 1000000 in
theorem sortS_none (p : Option Addr) (cap : Nat) (w : World) : Calls Try.prog 42 #[.slice p 0 cap] w fun e w' => e = .returned (.tuple #[]) ∧ w' = w := by
  go_enter Try.func42, Try.ntmps42
  go_wp2_with fail
  refine len0.mono ?_
  rintro e w1 ⟨n, rfl, rfl⟩
  go_wp2_with fail
  refine (pdqS_none p cap n).mono ?_
  rintro e w1 ⟨rfl, rfl⟩
  go_wp2
  go_end0
  exact ⟨rfl, rfl⟩
end Go.Proofs.Ytphcfkfdkaphbaa

namespace Go.Proofs
open Go.RowKit Go.Maps Go.Sort Go.Shelf
shelf_lay_g SlLaysZ.n7 Ggz 7 at Try 65 as Try.keysS
shelf_lay_g SlLaysZ.n6 Ggz 6 at Try 64 as Try.sortedS
shelf_lay_g SlLaysW.n5 Slmc 5 at Try 87 as Try.cloneM
end Go.Proofs

namespace Go.Proofs.Ytphcfkfdkaphbaa
open Go.RowKit Go.Maps Go.Sort Go.Shelf
theorem sortsS (m : Nat) : AnyZ.SortsIn Try.prog Try.sortedS_ren Fence.wide m :=
  ⟨fun blk off cap ss W hH hblk hsz => callsIn_wide.2 (Any.slices_Sort_string Try.lays190 blk off cap ss W hH hblk hsz),
   fun p cap W => callsIn_wide.2 (sortS_none p cap W)⟩

set_option maxHeartbeats 1000000 in
set_option maxRecDepth 1000000 in
theorem ArmedS {P b n : Nat} {D : DataW Unit} {cs : List Comp} {w : World} (h : All (tabS P b n D :: cs) w) (hn : n ≤ 1048576) : Calls Try.prog 47 #[.pointer (some ⟨P, 0, none⟩)] w fun e w' => ∃ (v : Value) (ss : List (List UInt8)), e = .returned v ∧ ss.Perm (strKeys D) ∧
      w'.ownsRow w.heap.size 9 1 v ss.length ((ss.mergeSort (fun x y => decide (x ≤ y))).map encStr) ∧ Below w.heap.size w w' := by
  have hb0 : w.heap[P]? = some (.cells #[.map (some b)] 92 (0, 0)) := h.1.2.1.1
  have c0 : w.cell? ⟨P, 0, none⟩ = some (.map (some b)) := by rw [cell_at hb0]; rfl
  have hown := h.1.2.1.2
  have hsz := hown.size_le
  have hmax : Maps.size D ≤ maxLen := by unfold maxLen; omega
  have hbytes : Maps.size D * 16 ≤ 140737488355328 := by omega
  clear h hb0
  refine (callsIn_wide (n := 6)).1 ?_
  have hbl := hown.lt
  have hseq : SeqGives Fence.wide 2 Try.prog 86 #[.pointer (some ⟨w.heap.size, 0, none⟩)] encStr (fun ss => ss.Perm (strKeys D)) (Maps.size D) (w.alloc (.cells #[.map (some b)] 90)) :=
    AnyZ.keys_gives (ρ := Try.keysS_ren) { Try.keysS with } Fence.wide _ trivial rfl (by omega) w.heap.size b n D _ (by simp) (by simp) (by
      obtain ⟨es, clock, hb, Ft, hs, hD⟩ := hown
      exact ⟨es, clock, (Below.heap_alloc _ _ b hbl).trans hb, Ft, hs, hD⟩)
  have cK : ∀ mb W, CallsIn Fence.wide 5 Try.prog 65 #[.map mb] W fun e w' => e = .returned (.func (.func 86) #[] #[.pointer (some ⟨W.heap.size, 0, none⟩)]) ∧ w' = W.alloc (.cells #[.map mb] 90) := fun mb W => AnyZ.keys_in Try.keysS Fence.wide 5 trivial rfl mb W
  have cS := AnyZ.sorted_in Try.sortedS Fence.wide 5 trivial trivial trivial trivial rfl (by omega) (sortsS _) (enters_of Try.func42 (by kernel_rfl) rfl) 86 #[.pointer (some ⟨w.heap.size, 0, none⟩)] trivial (enters_of Try.func86 (by kernel_rfl) rfl) _ _ hmax hbytes _ hseq
  change CallsIn _ _ Try.prog 64 _ _ _ at cS
  have cK' : ∀ mb W, Calls Try.prog 65 #[.map mb] W fun e w' => e = .returned (.func (.func 86) #[] #[.pointer (some ⟨W.heap.size, 0, none⟩)]) ∧ w' = W.alloc (.cells #[.map mb] 90) := fun mb W => callsIn_wide.1 (cK mb W)
  have cS' := hid (callsIn_wide.1 cS)
  clear cS cK hseq
  refine callsIn_wide.2 ?_
  go_enter Try.func47, Try.ntmps47
  go_wp2_with fail
  refine (cK' _ _).mono ?_
  rintro e w1 ⟨rfl, rfl⟩
  go_wp2_with fail
  refine cS'.out.mono ?_
  rintro e w2 ⟨v, ss, rfl, hS, hrow, hnil, hb⟩
  go_wp2
  go_ret
  exact ⟨v, ss, rfl, hS, ownsRow_base_a hrow (by simp), ((Below.refl _ w).alloc (Nat.le_refl _) _).trans (hb.mono (by simp))⟩

theorem TCloneS {P b n : Nat} {D : DataW Unit} {cs : List Comp} {w : World} (h : All (tabS P b n D :: cs) w) : Calls Try.prog 66 #[.pointer (some ⟨P, 0, none⟩)] w fun e w' => ∃ P' b', e = .returned (.pointer (some ⟨P', 0, none⟩)) ∧ All (tabS P' b' n D :: tabS P b n D :: cs) w' := by
  have hb0 : w.heap[P]? = some (.cells #[.map (some b)] 92 (0, 0)) := h.1.2.1.1
  have c0 : w.cell? ⟨P, 0, none⟩ = some (.map (some b)) := by rw [cell_at hb0]; rfl
  have C := hid (AnyW.maps_Clone_owns Try.cloneM 9 rE b n D w h.1.2.1.2)
  have HA := hid h
  clear h hb0
  go_enter Try.func66, Try.ntmps66
  go_wp2_with fail
  refine C.out.mono ?_
  rintro e w1 ⟨rfl, h1, h2, h3⟩
  have A2 : Hid (All (tabS w1.heap.size w.heap.size n D :: tabS P b n D :: cs) (w1.alloc (.cells #[.map (some w.heap.size)] 92))) := hid (by
    have hl := h1.lt
    refine HA.out.add (Fr.below (h3.trans ((ba w1 _).mono h3.size))) (tabS_good _ _ _ _) ⟨heap_alloc_new w1 _, ?_⟩ (fun k hk => ?_)
    · obtain ⟨es, clock, hb, Ft, hs, hD⟩ := h1
      exact ⟨es, clock, (Below.heap_alloc _ _ _ hl).trans hb, Ft, hs, hD⟩
    · have : k = w1.heap.size ∨ k = w.heap.size := by simpa [tabS] using hk
      rcases this with rfl | rfl
      · exact ⟨h3.size, by simp⟩
      · exact ⟨Nat.le_refl _, by simp; omega⟩)
  clear h1 h2 h3 C
  go_wp2
  go_ret
  exact ⟨_, _, rfl, A2.out⟩
end Go.Proofs.Ytphcfkfdkaphbaa

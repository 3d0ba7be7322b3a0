import Derived.Test.YthjoppgomopkfaaRefA
import Derived.Test.YthjoppgomopkfaaLog3
namespace Go.Proofs.Ythjoppgomopkfaa
open Go.RowKit
set_option linter.unusedVariables false

set_option maxHeartbeats 800000 in
set_option maxRecDepth 1000000 in
theorem rClone_any {p n b : Nat} {v : Value} {l : List Ent} {cs : List Comp} {w : World} (hA : All (refP p n b v l ++ cs) w) (hl : l.length ≤ 64) : Calls Try.prog 20 #[.pointer (some ⟨p, 0, none⟩)] w fun e w' => ∃ p' v', e = .returned (.pointer (some ⟨p', 0, none⟩)) ∧ All (refP p' n b v' l ++ (refP p n b v l ++ cs)) w' := by
  obtain ⟨v', w1, hr, hb, ho⟩ := app_all (EntsW.of_owns hA.refRow) (by omega)
  have A1 := hid (hA.addRow hb ho)
  obtain ⟨ao', c', rfl⟩ := owns_form ho
  have c2 := hA.ref.c2
  obtain ⟨ao, c, rfl, hc⟩ := owns7_form hA.refRow
  have d0 := A1.out.tail.ref.c0
  have d1 := A1.out.tail.ref.c1
  have hpl : p < w1.heap.size := (Array.getElem?_eq_some_iff.1 A1.out.tail.ref).1
  have n1 : p ≠ w1.heap.size := by omega
  have AZ := hid (A1.out.drew.addBlk [.int .i64 (n : Int), .int .i64 (b : Int), .slice ao' l.length c'] 47)
  clear hA hb ho
  have HR := hid hr
  clear hr
  go_enter Try.func20, Try.ntmps20
  go_wp2_with (at_builtin; refine wpList_append_run rfl (.tmp 4) (.tmp 8) 40 rfl _ _ _ _ rfl rfl HR.out ?_)
  go_region_held3 (fun W => W.cell? ⟨p, 0, none⟩ = some (.int .i64 (n : Int)) ∧ W.cell? ⟨p, 1, none⟩ = some (.int .i64 (b : Int))) (go_keep) (fail)
  go_wp2
  go_ret
  exact ⟨_, _, rfl, AZ.out⟩

set_option maxRecDepth 1000000 in
theorem rAt_no {w : World} {p n b m c : Nat} {ao : Option Addr} (h : RefAt w p n b (.slice ao m c)) (hb : b + m ≤ 1099511627776) (k : Int) (hk : ¬ ((b : Int) < k ∧ k ≤ ((b + m : Nat) : Int))) : Calls Try.prog 27 #[.pointer (some ⟨p, 0, none⟩), .int .i64 k] w fun e w' => e = .returned (.tuple #[Ent.zero.V, .bool false]) ∧ Below w.heap.size w w' := by
  have H1 := hid (rhas_any (h.later (ba w (.cells #[.int .i64 0, .int .i64 0, .int .i64 0, .string ⟨#[]⟩, .string ⟨#[]⟩, .int .i64 0, .int .i64 0] 39))) hb k)
  rw [decide_eq_false hk] at H1
  have A0 : Hid (All [blkC w.heap.size Ent.zero.cells 39, inC w] (w.alloc (.cells #[.int .i64 0, .int .i64 0, .int .i64 0, .string ⟨#[]⟩, .string ⟨#[]⟩, .int .i64 0, .int .i64 0] 39))) := hid ((All.came w).addBlk Ent.zero.cells 39)
  clear h hk
  go_enter Try.func27, Try.ntmps27
  go_wp2_with fail
  refine H1.out.mono ?_
  rintro e w1 ⟨rfl, hb1⟩
  have A2 := hid (A0.out.later hb1)
  have A3 : Hid (All [blkC w.heap.size Ent.zero.cells 39, inC w] (w1.setCells w.heap.size 0 Ent.zero.cells)) := hid (All.setBlks Ent.zero.cells Ent.zero.cells w1 0 A2.out)
  rw [set7] at A3
  simp only [Nat.zero_add, Ent.zero] at A3
  obtain ⟨s1, s2, s3, s4, s5, s6, s7⟩ := entAt_of (range_one A2.out.1.2.1)
  have hf : ∀ j, w1.frozen? ⟨w.heap.size, j, none⟩ = false := fun j => free_at A2.out.1.2.1 j
  clear H1 A0 A2 hb1
  go_wp2
  have hz := A3.out.1.2.1
  have hB := A3.out.into (w0 := w) (by simp)
  refine ret_entB (fn := Try.f27) (b := w.heap.size) (x := Ent.zero) rfl rfl rfl hz rfl ?_
  exact ⟨rfl, hB⟩

end Go.Proofs.Ythjoppgomopkfaa

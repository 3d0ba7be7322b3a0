import Derived.Test.YtdhkdniddjnigaaGreatDoorPx7
import Derived.Deep.Draws
import Derived.Deep.Upon
namespace Go.Proofs.YtdhkdniddjnigaaGreatDoor
open Go.RowKit
set_option linter.unusedVariables false
theorem wp_append_run {P : Program} {w : World} {o : Oper} {a : Act} {K : Act → World → Prop} {Q : Exit → Act → World → Prop} (s x : Operand) (t : TypeId)
    (ho : o.op = .call { callee := .builtin .append, args := #[s, x], argTypes := #[t, t] }) (v1 v2 v' : Value) (w' : World) (hs : a.eval s = v1) (hx : a.eval x = v2)
    (hr : (Builtin.append_ #[t, t] o.type #[v1, v2]).run P w = .ok v' w') (h : K (a.put o.dst v') w') : o.wp P a w K Q := by
  unfold Oper.wp execOp
  simp only [ho, resolve, invoke, builtin, Sem.run_bind, Sem.run_pure, Result.andThen_ok, List.map_toArray, List.map_cons, List.map_nil, hs, hx, hr]
  exact h
theorem Ms.len (m : Ms) : m.cells.length = 23 := rfl
theorem Ms.one (m : Ms) : ∀ u ∈ m.cells, u.oneCell' = true := by
  intro u hu
  have := one41 m
  rw [Array.all_eq_true'] at this
  exact this u (by simpa using hu)
/-- A row of messages. -/
abbrev msC (v : Value) (l : List Ms) : Comp := rowC 51 23 v l.length (l.flatMap Ms.cells)
/-- One message more. -/
theorem appM {W : World} {v : Value} {l : List Ms} {x : Ms} {H : Nat} {cs : List Comp} (A : All (msC v l :: blkC H x.cells 51 :: cs) W) (hb : (l.length + 1) * 264 ≤ 140737488355328) :
    ∃ ao cap w', (Builtin.append_ #[59, 59] 59 #[v, .slice (some ⟨H, 0, none⟩) 1 1]).run Tryz.prog W = .ok (.slice ao (l.length + 1) cap) w' ∧ All (msC (.slice ao (l.length + 1) cap) (l ++ [x]) :: blkC H x.cells 51 :: cs) w' := by
  obtain ⟨i1, hi1, hz0, hz1, hz2⟩ := info_parts Tryz.inf41
  have hH : W.heap[H]? = some (.cells x.cells.toArray 51 (0, 0)) := A.tail.1.2.1
  have := appN (c := 1) und49 hi1 hz0 hz1 hz2 rfl (by decide) A (some ⟨H, 0, none⟩) (news := x.cells) (m := 1) rfl (fun _ => ⟨_, rfl, fun j u hu => by rw [Addr.add_lit, Nat.zero_add, cell_at hH]; simpa using hu⟩) x.one (by unfold maxLen; omega) hb
  have e : (l ++ [x]).flatMap Ms.cells = l.flatMap Ms.cells ++ x.cells := by simp
  unfold msC
  rw [e, List.length_append]
  exact this
end Go.Proofs.YtdhkdniddjnigaaGreatDoor

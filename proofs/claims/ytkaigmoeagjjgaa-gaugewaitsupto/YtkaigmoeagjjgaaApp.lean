import Derived.Test.YtkaigmoeagjjgaaSam
import Derived.Maps.AppendAt
import Derived.Laws.AppendOwnNone
namespace Go.Proofs.Ytkaigmoeagjjgaa
open Go.RowKit
set_option linter.unusedVariables false

/-- append(s, ys...): a list of one's own, and numbers that are read. -/
theorem wpList_app {w : World} {ops : Array Oper} {rest : List Oper} {o : Oper} {a : Act} {Q : Exit → Act → World → Prop} (hgd : o.guard = none) {s y : Operand}
    (ho : o.op = .call { callee := .builtin .append, args := #[s, y], argTypes := #[22, 22] })
    {v u : Value} {xs ys : List Int} {cs : List Comp} (hA : All (ownC 3 v (ints xs) :: cs) w) (hs : a.eval s = v) (hx : a.eval y = u) (hu : IntsAt w u ys) (hb : (xs.length + ys.length) * 8 ≤ 140737488355328)
    (h : ∀ v' w', All (ownC 3 v' (ints (xs ++ ys)) :: cs) w' → (∃ oo oc, v' = .slice oo (xs.length + ys.length) oc) → w.heap.size ≤ w'.heap.size → wpList Try.prog ops Q rest (a.put o.dst v') w') : wpList Try.prog ops Q (o :: rest) a w := by
  obtain ⟨i0, hi, hz0, hz1, hz2⟩ := info_parts Try.info3
  have hrow : w.ownsRow 0 3 1 v xs.length (ints xs) := by
    have h' : w.ownsRow 0 3 1 v (ints xs).length (ints xs) := hA.1.2.1
    rwa [List.length_map] at h'
  have hmax : xs.length + ys.length ≤ maxLen := by unfold maxLen; omega
  have hm : ints (xs ++ ys) = ints xs ++ ints ys := by simp
  have hml : (ints (xs ++ ys)).length = xs.length + ys.length := by simp
  have grown : ∀ v' w', w'.ownsRow 0 3 1 v' (xs.length + ys.length) (ints xs ++ ints ys) → w.grownBy w' v.ownBlock → (v'.ownBlock = v.ownBlock ∨ v'.ownBlock = some w.heap.size) → wpList Try.prog ops Q rest (a.put o.dst v') w' := fun v' w' h1 h2 h3 =>
    h v' w' (All.ownGrow (vs' := ints (xs ++ ys)) hA (base := 0) (by rw [hml, hm]; exact h1) h2 h3) (owns_form h1) h2.size
  obtain ⟨ao, c, rfl, hc, hcase⟩ := hu
  have key : ∀ ad : Addr, ao = some ad → (∀ j z, (ints ys)[j]? = some z → w.cell? (ad.add j) = some z) → wpList Try.prog ops Q (o :: rest) a w := fun ad e hnews => by
    subst e
    exact wpList_append_own_at w hgd s y 22 ho 0 3 i0 (.int .i64 0) 1 8 Try.underlying22 hi hz0 hz1 hz2 rfl (by decide) v xs.length (ints xs) hs hrow ad ys.length c (ints ys) hx (by simp) hnews (ints_one _) hmax hb (Nat.zero_le _) fun v' w' h1 h2 _ h3 => grown v' w' h1 h2 h3
  rcases hcase with ⟨rfl, h0⟩ | ⟨b, off, rfl, hlt, hcell⟩
  · cases ao with
    | none =>
      have := h0 rfl
      subst this
      refine wpList_append_own_none hgd s y 22 ho 0 3 i0 1 Try.underlying22 hi v xs.length (ints xs) hs hrow hx ?_
      refine h v w ?_ (by simpa using owns_form hrow) (Nat.le_refl _)
      simpa using hA
    | some ad => exact key ad rfl (fun j z hz => by simp at hz)
  · exact key _ rfl (fun j z hz => by rw [Addr.add_lit]; exact hcell j z hz)

theorem ints_new (w : World) (x : Int) : IntsAt (w.alloc (.cells #[.int .i64 x] 3)) (.slice (some ⟨w.heap.size, 0, none⟩) 1 1) [x] :=
  ints_at_blk (xs := [x]) (World.alloc_heap_new w _) (Nat.le_refl _)
theorem own_nil {cs : List Comp} {w : World} (h : All cs w) : All (ownC 3 (.slice (some ⟨w.heap.size, 0, none⟩) 0 0) (ints []) :: cs) (w.alloc (.cells #[] 3)) :=
  own_of_blk (h.addBlk [] 3) (by simp) (by simp)
end Go.Proofs.Ytkaigmoeagjjgaa

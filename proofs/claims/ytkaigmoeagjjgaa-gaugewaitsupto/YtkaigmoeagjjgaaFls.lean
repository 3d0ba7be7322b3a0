import Derived.Test.YtkaigmoeagjjgaaSmo
import Derived.Test.YtkaigmoeagjjgaaLen
import Derived.Test.YtkaigmoeagjjgaaShw
import Derived.Test.YtkaigmoeagjjgaaRfS
namespace Go.Proofs.Ytkaigmoeagjjgaa
open Go.RowKit
attribute [local go_sem] run_store_float
set_option linter.unusedVariables false

/-- A slice of floats that is read. -/
def FAt (w : World) (v : Value) (xs : List Nat) : Prop :=
  ∃ ao cap, v = .slice ao xs.length cap ∧ xs.length ≤ cap ∧ ((xs = [] ∧ (ao = none → cap = 0)) ∨ ∃ b off, ao = some ⟨b, off, none⟩ ∧ b < w.heap.size ∧ ∀ j u, (flts xs)[j]? = some u → w.cell? ⟨b, off + j, none⟩ = some u)
theorem FAt.later {w w' : World} {v : Value} {xs : List Nat} (h : FAt w v xs) (hb : Below w.heap.size w w') : FAt w' v xs := by
  obtain ⟨ao, cap, e, hc, h | ⟨b, off, e2, hlt, hcell⟩⟩ := h
  · exact ⟨ao, cap, e, hc, .inl h⟩
  · exact ⟨ao, cap, e, hc, .inr ⟨b, off, e2, Nat.lt_of_lt_of_le hlt hb.size, fun j u hu => (hb.cell (p := ⟨b, off + j, none⟩) hlt).trans (hcell j u hu)⟩⟩
theorem FAt.form {w : World} {v : Value} {xs : List Nat} (h : FAt w v xs) : ∃ ao cap, v = .slice ao xs.length cap := by
  obtain ⟨ao, cap, e, _⟩ := h
  exact ⟨ao, cap, e⟩
theorem FAt.at {w : World} {ao : Option Addr} {n c : Nat} {xs : List Nat} (h : FAt w (.slice ao n c) xs) {i : Nat} {x : Nat} (hx : xs[i]? = some x) : ∃ b off, ao = some ⟨b, off, none⟩ ∧ b < w.heap.size ∧ w.cell? ⟨b, off + i, none⟩ = some (.float .f64 x) := by
  obtain ⟨ao', c', e, _, ⟨rfl, _⟩ | ⟨b, off, rfl, hb, hc⟩⟩ := h
  · simp at hx
  · simp only [Value.slice.injEq] at e
    obtain ⟨rfl, _, _⟩ := e
    exact ⟨b, off, rfl, hb, hc i _ (by simp [hx])⟩
theorem FAt.cap {w : World} {ao : Option Addr} {n c : Nat} {xs : List Nat} (h : FAt w (.slice ao n c) xs) : xs.length ≤ c ∧ n = xs.length := by
  obtain ⟨ao', c', e, h, _⟩ := h
  simp only [Value.slice.injEq] at e
  exact ⟨by omega, e.2.1⟩
theorem flts_at_blk {w : World} {b c : Nat} {xs : List Nat} (h : w.heap[b]? = some (.cells (flts xs).toArray 25 (0, 0))) (hc : xs.length ≤ c) : FAt w (.slice (some ⟨b, 0, none⟩) xs.length c) xs :=
  ⟨_, c, rfl, hc, .inr ⟨b, 0, rfl, (Array.getElem?_eq_some_iff.1 h).1, fun j u hu => by rw [cell_at h, Nat.zero_add]; exact (List.getElem?_toArray ..).trans hu⟩⟩
theorem flts_of_all {w : World} {v : Value} {xs : List Nat} {cs : List Comp} (h : All (ownC 25 v (flts xs) :: cs) w) : FAt w v xs := by
  have h' : w.ownsRow 0 25 1 v (flts xs).length (flts xs) := h.1.2.1
  rw [List.length_map] at h'
  rcases h'.2 with ⟨rfl, e⟩ | ⟨g, cap, cur, rfl, hg0, hg, hn, hm, hcs, ht⟩
  · have : xs = [] := List.eq_nil_of_length_eq_zero e
    subst this
    exact ⟨none, 0, rfl, Nat.le_refl _, .inl ⟨rfl, fun _ => rfl⟩⟩
  · refine ⟨_, cap, rfl, hn, .inr ⟨g, 0, rfl, (Array.getElem?_eq_some_iff.1 hg).1, fun j u hu => ?_⟩⟩
    rw [cell_at hg, Nat.zero_add]
    rw [← ht, List.getElem?_take] at hu
    split at hu
    · simpa using hu
    · cases hu
theorem flts_new (w : World) (x : Nat) : FAt (w.alloc (.cells #[.float .f64 x] 25)) (.slice (some ⟨w.heap.size, 0, none⟩) 1 1) [x] :=
  flts_at_blk (xs := [x]) (World.alloc_heap_new w _) (Nat.le_refl _)
theorem own_nilF {cs : List Comp} {w : World} (h : All cs w) : All (ownC 25 (.slice (some ⟨w.heap.size, 0, none⟩) 0 0) (flts []) :: cs) (w.alloc (.cells #[] 25)) :=
  own_of_blkF (h.addBlk [] 25) (by simp) (by simp)

/-- append(s, ys...) of floats. -/
theorem wpList_appF {w : World} {ops : Array Oper} {rest : List Oper} {o : Oper} {a : Act} {Q : Exit → Act → World → Prop} (hgd : o.guard = none) {s y : Operand}
    (ho : o.op = .call { callee := .builtin .append, args := #[s, y], argTypes := #[39, 39] })
    {v u : Value} {xs ys : List Nat} {cs : List Comp} (hA : All (ownC 25 v (flts xs) :: cs) w) (hs : a.eval s = v) (hx : a.eval y = u) (hu : FAt w u ys) (hb : (xs.length + ys.length) * 8 ≤ 140737488355328)
    (h : ∀ v' w', All (ownC 25 v' (flts (xs ++ ys)) :: cs) w' → (∃ oo oc, v' = .slice oo (xs.length + ys.length) oc) → w.heap.size ≤ w'.heap.size → wpList Try.prog ops Q rest (a.put o.dst v') w') : wpList Try.prog ops Q (o :: rest) a w := by
  obtain ⟨i0, hi, hz0, hz1, hz2⟩ := info_parts Try.info25
  have hrow : w.ownsRow 0 25 1 v xs.length (flts xs) := by
    have h' : w.ownsRow 0 25 1 v (flts xs).length (flts xs) := hA.1.2.1
    rwa [List.length_map] at h'
  have hmax : xs.length + ys.length ≤ maxLen := by unfold maxLen; omega
  have hm : flts (xs ++ ys) = flts xs ++ flts ys := by simp
  have hml : (flts (xs ++ ys)).length = xs.length + ys.length := by simp
  have grown : ∀ v' w', w'.ownsRow 0 25 1 v' (xs.length + ys.length) (flts xs ++ flts ys) → w.grownBy w' v.ownBlock → (v'.ownBlock = v.ownBlock ∨ v'.ownBlock = some w.heap.size) → wpList Try.prog ops Q rest (a.put o.dst v') w' := fun v' w' h1 h2 h3 =>
    h v' w' (All.ownGrow (vs' := flts (xs ++ ys)) hA (base := 0) (by rw [hml, hm]; exact h1) h2 h3) (owns_form h1) h2.size
  obtain ⟨ao, c, rfl, hc, hcase⟩ := hu
  have key : ∀ ad : Addr, ao = some ad → (∀ j z, (flts ys)[j]? = some z → w.cell? (ad.add j) = some z) → wpList Try.prog ops Q (o :: rest) a w := fun ad e hnews => by
    subst e
    exact wpList_append_own_at w hgd s y 39 ho 0 25 i0 (.float .f64 0) 1 8 Try.underlying39 hi hz0 hz1 hz2 rfl (by decide) v xs.length (flts xs) hs hrow ad ys.length c (flts ys) hx (by simp) hnews (flts_one _) hmax hb (Nat.zero_le _) fun v' w' h1 h2 _ h3 => grown v' w' h1 h2 h3
  rcases hcase with ⟨rfl, h0⟩ | ⟨b, off, rfl, hlt, hcell⟩
  · cases ao with
    | none =>
      have := h0 rfl
      subst this
      refine wpList_append_own_none hgd s y 39 ho 0 25 i0 1 Try.underlying39 hi v xs.length (flts xs) hs hrow hx ?_
      refine h v w ?_ (by simpa using owns_form hrow) (Nat.le_refl _)
      simpa using hA
    | some ad => exact key ad rfl (fun j z hz => by simp at hz)
  · exact key _ rfl (fun j z hz => by rw [Addr.add_lit]; exact hcell j z hz)

set_option maxHeartbeats 1000000 in
theorem sameFloats_any {w : World} {v u : Value} {a : List Nat} (h : FAt w v a) (h2 : FAt w u a) (hn : ∀ x ∈ a, Flt.NN x) (hl : a.length ≤ 1048576) : Calls Try.prog 23 #[v, u] w fun e w' => e = .returned (.bool true) ∧ ∃ q, w' = w.drewN q := by
  obtain ⟨ao, c, rfl⟩ := h.form
  obtain ⟨bo, d, rfl⟩ := h2.form
  obtain ⟨hc, _⟩ := h.cap
  obtain ⟨hd, _⟩ := h2.cap
  have H1 := hid h
  have H2 := hid h2
  have HN := hid hn
  clear h h2 hn
  go_enter Try.func23, Try.ntmps23
  go_wp2
  go_loopw [5] (fun s wr => ∃ k q : Nat, k ≤ a.length ∧ s = .int .i64 (k : Int) ∧ wr = w.drewN q) (fun s _ => a.length - (intOf s).toNat)
  case atStart => exact ⟨0, 0, Nat.zero_le _, rfl, rfl⟩
  case round =>
    obtain ⟨k, q, hk, rfl, rfl⟩ := hrel
    by_cases hlt : k < a.length
    · obtain ⟨x, hx⟩ : ∃ x, a[k]? = some x := ⟨_, List.getElem?_eq_getElem hlt⟩
      obtain ⟨g, off, rfl, hg, ca⟩ := H1.out.at hx
      obtain ⟨g', off', rfl, hg', cb⟩ := H2.out.at hx
      have c1 : (w.drewN q).drew.cell? ⟨g, off + k, none⟩ = some (.float .f64 x) := ca
      have c2 : (w.drewN q).drew.cell? ⟨g', off' + k, none⟩ = some (.float .f64 x) := cb
      have ho : (FloatKind.f64.format.order x x != some .eq) = false := by
        rw [show FloatKind.f64.format.order x x = some .eq from Flt.order_self (HN.out x (List.mem_of_getElem? hx))]; rfl
      clear hx
      go_upto_region 6 with fail
      go_region
      go_wp2
      go_roundw
      case rel => exact ⟨k + 1, q + 1, by omega, rfl, rfl⟩
      case measure => simp [intOf]; omega
    · have hkk : k = a.length := by omega
      clear hkk
      go_wp2
      go_ret
      exact ⟨rfl, q, rfl⟩
end Go.Proofs.Ytkaigmoeagjjgaa

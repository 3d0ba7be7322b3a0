import Derived.Test.YtkaigmoeagjjgaaWt5
namespace Go.Proofs.Ytkaigmoeagjjgaa
open Go.RowKit
open Go.Maps (Keyed)
set_option linter.unusedVariables false

def Sp.wc (x : Sp) : List Value := [.int .i64 x.b, .int .i64 x.t, .bool x.d]
def flatW (l : List Sp) : List Value := l.flatMap Sp.wc
theorem flatW_snoc (l : List Sp) (e : Sp) : flatW (l ++ [e]) = flatW l ++ e.wc := by simp [flatW]
theorem flatW_get : ∀ {ys : List Sp} {i j : Nat} {y : Sp}, ys[i]? = some y → j < 3 → (flatW ys)[i * 3 + j]? = y.wc[j]?
  | [], i, j, y, h, _ => by simp at h
  | x :: ys, 0, j, y, h, hj => by
    simp at h
    subst h
    simp only [flatW, List.flatMap_cons, Nat.zero_mul, Nat.zero_add]
    rw [List.getElem?_append_left (by simpa [Sp.wc] using hj)]
  | x :: ys, i + 1, j, y, h, hj => by
    simp at h
    have := flatW_get (j := j) h hj
    simp only [flatW, List.flatMap_cons] at this ⊢
    rw [List.getElem?_append_right (by simp [Sp.wc]; omega), ← this]
    congr 1
    simp [Sp.wc]
    omega
theorem flatW_set : ∀ {rs : List Sp} {i : Nat} {x : Sp} (t : Int) (d : Bool), rs[i]? = some x → flatW (rs.set i { x with t := t, d := d }) = ((flatW rs).set (i * 3 + 1) (.int .i64 t)).set (i * 3 + 2) (.bool d)
  | [], i, x, t, d, h => by simp at h
  | y :: rs, 0, x, t, d, h => by
    simp at h; subst h
    simp [flatW, Sp.wc]
  | y :: rs, i + 1, x, t, d, h => by
    have ih := flatW_set (rs := rs) (i := i) (x := x) t d (by simpa using h)
    simp only [flatW, List.set_cons_succ, List.flatMap_cons] at ih ⊢
    rw [ih]
    have e : (i + 1) * 3 = i * 3 + 3 := by omega
    rw [e]
    simp [Sp.wc]
theorem wt_at {w : World} {ao : Option Addr} {c i : Nat} {ys : List Sp} {y : Sp} (h : w.ownsRow 0 91 3 (.slice ao ys.length c) ys.length (flatW ys)) (hy : ys[i]? = some y) :
    ∃ gr, ao = some ⟨gr, 0, none⟩ ∧ gr < w.heap.size ∧ w.cell? ⟨gr, i * 3, none⟩ = some (.int .i64 y.b) ∧ w.cell? ⟨gr, i * 3 + 1, none⟩ = some (.int .i64 y.t) ∧ w.cell? ⟨gr, i * 3 + 2, none⟩ = some (.bool y.d) ∧ (∀ k, w.frozen? ⟨gr, k, none⟩ = false) := by
  have key : ∀ j u, j < 3 → y.wc[j]? = some u → ∃ g, ao = some ⟨g, 0, none⟩ ∧ g < w.heap.size ∧ w.cell? ⟨g, i * 3 + j, none⟩ = some u ∧ w.frozen? ⟨g, i * 3 + j, none⟩ = false := fun j u hj hu => row_cell h (by rw [flatW_get hy hj]; exact hu)
  obtain ⟨g, rfl, h1, h2, _⟩ := key 0 _ (by omega) rfl
  have get : ∀ j u, j < 3 → y.wc[j]? = some u → w.cell? ⟨g, i * 3 + j, none⟩ = some u := fun j u hj hu => by
    obtain ⟨g', e, _, h3, _⟩ := key j u hj hu
    simp only [Option.some.injEq, Addr.mk.injEq, and_true] at e
    subst e; exact h3
  refine ⟨g, rfl, h1, h2, get 1 _ (by omega) rfl, get 2 _ (by omega) rfl, fun k => ?_⟩
  rcases h.2 with ⟨e1, _⟩ | ⟨gr, cap, cur, e1, _, hg, _⟩
  · cases e1
  · simp only [Value.slice.injEq, Option.some.injEq, Addr.mk.injEq, and_true] at e1
    obtain ⟨rfl, _⟩ := e1
    exact free_at hg k
theorem alloc_two (w : World) (o x : Obj) : ((w.alloc o).alloc x).heap[w.heap.size + 1]? = some x := by
  have := World.alloc_heap_new (w.alloc o) x
  simpa using this
set_option maxRecDepth 100000 in
theorem pairOf_any {w : World} {us : List Value} {a n : Int} {cs : List Comp} (hA : All cs w) (hu : us.length = 33) (h1 : us[1]? = some (.int .i64 a)) (h2 : us[2]? = some (.int .i64 n)) : Calls Try.prog 40 #[.agg us.toArray] w fun e w' => e = .returned (.agg #[.int .i64 a, .int .i64 n]) ∧ All cs w' := by
  have A1 := hid ((hA.alloc (.cells us.toArray 75)).alloc (.cells #[.int .i64 a, .int .i64 n] 78))
  have l1 : 1 < us.length := by omega
  have l2 : 2 < us.length := by omega
  have q1 : us[1] = .int .i64 a := by rw [List.getElem?_eq_getElem l1] at h1; exact Option.some.inj h1
  have q2 : us[2] = .int .i64 n := by rw [List.getElem?_eq_getElem l2] at h2; exact Option.some.inj h2
  have hB : ((w.alloc (.cells us.toArray 75)).alloc (.cells #[.int .i64 a, .int .i64 n] 78)).heap[w.heap.size + 1]? = some (.cells #[.int .i64 a, .int .i64 n] 78 (0, 0)) := by
    exact alloc_two w _ _
  have i78 : (Try.prog.info? 78).map (·.size) = some 2 := by kernel_rfl
  have HB := hid hB
  clear hA h1 h2 hB
  go_enter Try.func40, Try.ntmps40
  go_upto_region 1 with fail
  go_wp2
  refine bodyPost_ret (v := .agg #[.int .i64 a, .int .i64 n]) (results_cell_row (fn := Try.f40) rfl _ _ (w.heap.size + 1) 78 #[.int .i64 a, .int .i64 n] (0, 0) _ rfl HB.out Try.underlying78 rfl i78) rfl ?_
  exact ⟨rfl, A1.out⟩

set_option maxRecDepth 100000 in
set_option maxHeartbeats 4000000 in
theorem ended_any {w : World} {K : Nat} {oo : Option Addr} {oc : Nat} {m : Value} {S : List Sp} {cs : List Comp} (hA : All (blkC K [.slice oo S.length oc, m] 60 :: rowC 91 3 (.slice oo S.length oc) S.length (flatW S) :: cs) w) (hS : S.length ≤ 1048577) : Calls Try.prog 42 #[.pointer (some ⟨K, 0, none⟩)] w fun e w' => ∃ o2 c2, e = .returned (.slice o2 (tooks S).length c2) ∧ All (ownC 3 (.slice o2 (tooks S).length c2) (ints (tooks S)) :: blkC K [.slice oo S.length oc, m] 60 :: rowC 91 3 (.slice oo S.length oc) S.length (flatW S) :: cs) w' := by
  have hb : w.heap[K]? = some (.cells #[.slice oo S.length oc, m] 60 (0, 0)) := hA.1.2.1
  have c0 : w.cell? ⟨K, 0, none⟩ = some (.slice oo S.length oc) := by rw [cell_at hb]; rfl
  have A0 := hid (All.addNil (e := 3) hA)
  obtain ⟨Q, hQ⟩ : ∃ Q : Ending → World → Prop, Hid (Q = fun e w' => ∃ o2 c2, e = .returned (.slice o2 (tooks S).length c2) ∧ All (ownC 3 (.slice o2 (tooks S).length c2) (ints (tooks S)) :: blkC K [.slice oo S.length oc, m] 60 :: rowC 91 3 (.slice oo S.length oc) S.length (flatW S) :: cs) w') := ⟨_, rfl⟩
  rw [← hQ.out]
  clear hA hb
  go_enter Try.func42, Try.ntmps42
  go_wp2
  go_loopw [3, 11] (fun u s wx => ∃ (k M : Nat) (o3 : Option Addr) (c3 : Nat), k ≤ S.length ∧ Hid (M = (tooks (S.take k)).length) ∧ u = .slice o3 M c3 ∧ s = .int .i64 (k : Int) ∧ All (ownC 3 u (ints (tooks (S.take k))) :: blkC K [.slice oo S.length oc, m] 60 :: rowC 91 3 (.slice oo S.length oc) S.length (flatW S) :: cs) wx) (fun _ s _ => S.length - (intOf s).toNat)
  case atStart => exact ⟨0, 0, _, _, Nat.zero_le _, hid rfl, rfl, rfl, A0.out⟩
  case round =>
    obtain ⟨k, M, o3, c3, hk, hM, rfl, rfl, hA3⟩ := hrel
    have HA3 := hid hA3
    clear A0
    by_cases hlt2 : k < S.length
    · obtain ⟨x, hx⟩ : ∃ x, S[k]? = some x := ⟨_, List.getElem?_eq_getElem hlt2⟩
      obtain ⟨g, rfl, hg, s0, s1, s2, cf⟩ := wt_at (show wr.ownsRow 0 91 3 (.slice oo S.length oc) S.length (flatW S) from hA3.tail.tail.1.2.1) hx
      have hts := hid (show tooks (S.take (k + 1)) = _ by rw [take_snocG hx, tooks_snoc])
      have htl : (tooks (S.take k)).length ≤ 1048577 := by
        unfold tooks
        rw [List.length_map]
        exact Nat.le_trans (List.length_filter_le _ _) (by rw [List.length_take]; omega)
      generalize tooks (S.take k) = tk at hts htl hM HA3
      have hM' := hM.out
      subst hM'
      obtain ⟨xa, xn, xb, xt, xd⟩ := x
      change wr.cell? ⟨g, k * 3, none⟩ = some (.int .i64 xb) at s0
      change wr.cell? ⟨g, k * 3 + 1, none⟩ = some (.int .i64 xt) at s1
      change wr.cell? ⟨g, k * 3 + 2, none⟩ = some (.bool xd) at s2
      change Hid (tooks (S.take (k + 1)) = tk ++ (if xd = true then [xt] else [])) at hts
      clear hA3 hx cf hM c0
      have A4 := hid (HA3.out.alloc (.cells #[.int .i64 xb, .int .i64 xt, .bool xd] 91))
      have pb := World.alloc_heap_new wr (.cells #[.int .i64 xb, .int .i64 xt, .bool xd] 91)
      have p1 : (wr.alloc (.cells #[.int .i64 xb, .int .i64 xt, .bool xd] 91)).cell? ⟨wr.heap.size, 1, none⟩ = some (.int .i64 xt) := by rw [cell_at pb]; rfl
      have p2 : (wr.alloc (.cells #[.int .i64 xb, .int .i64 xt, .bool xd] 91)).cell? ⟨wr.heap.size, 2, none⟩ = some (.bool xd) := by rw [cell_at pb]; rfl
      clear HA3 pb
      go_upto_region 5 with fail
      generalize wr.alloc (.cells #[.int .i64 xb, .int .i64 xt, .bool xd] 91) = w4 at A4 p1 p2 ⊢
      generalize wr.heap.size = P at p1 p2 ⊢
      cases xd with
      | true =>
        have hts2 := hid (show tooks (S.take (k + 1)) = tk ++ [xt] from hts.out)
        have A5 := hid (A4.out.alloc (.cells #[.int .i64 xt] 3))
        have hb8 : (tk.length + [xt].length) * 8 ≤ 140737488355328 := by rw [List.length_singleton]; omega
        clear hts
        go_wp2_with (at_builtin; refine wpList_app rfl rfl A5.out rfl rfl (ints_new _ _) hb8 ?_; intro v' w' hA2 hf hsz; obtain ⟨oo3, oc3, rfl⟩ := hf; have HA5 := hid hA2; clear hA2 hsz)
        clear A5 A4
        go_wp2
        go_roundw
        case rel => exact ⟨k + 1, _, oo3, oc3, by omega, hid (by rw [hts2.out, List.length_append]; rfl), rfl, rfl, by rw [hts2.out]; exact HA5.out⟩
        case measure => simp [intOf]; omega
      | false =>
        have hts2 := hid (show tooks (S.take (k + 1)) = tk by rw [hts.out]; simp)
        clear hts
        go_wp2
        go_roundw
        case rel => exact ⟨k + 1, _, o3, c3, by omega, hid (by rw [hts2.out]), rfl, rfl, by rw [hts2.out]; exact A4.out⟩
        case measure => simp [intOf]; omega
    · obtain rfl : k = S.length := by omega
      rw [List.take_length] at HA3 hM
      have hM' := hM.out
      subst hM'
      clear hA3 hM c0
      go_wp2
      rw [hQ.out]
      exact ⟨o3, c3, rfl, HA3.out⟩
end Go.Proofs.Ytkaigmoeagjjgaa

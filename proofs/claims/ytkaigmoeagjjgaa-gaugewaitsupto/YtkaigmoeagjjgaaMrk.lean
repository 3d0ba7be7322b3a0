import Derived.Test.YtkaigmoeagjjgaaLen
namespace Go.Proofs.Ytkaigmoeagjjgaa
open Go.RowKit
set_option linter.unusedVariables false

theorem own_free {t : TypeId} {g n c : Nat} {vs : List Value} {cs : List Comp} {w : World} (h : All (ownC t (.slice (some ⟨g, 0, none⟩) n c) vs :: cs) w) (k : Nat) : w.frozen? ⟨g, k, none⟩ = false := by
  have h' : w.ownsRow 0 t 1 (.slice (some ⟨g, 0, none⟩) n c) vs.length vs := h.1.2.1
  rcases h'.2 with ⟨e, _⟩ | ⟨g', cap, cur, e, hg0, hg, _⟩
  · cases e
  · simp only [Value.slice.injEq, Option.some.injEq, Addr.mk.injEq, and_true] at e
    obtain ⟨rfl, _, _⟩ := e
    exact free_at hg k
theorem int_cell {xs : List Int} {k : Nat} {x : Int} (h : xs[k]? = some x) : (ints xs)[k]? = some (.int .i64 x) := by rw [List.getElem?_map, h]; rfl

set_option maxHeartbeats 2000000 in
theorem marked_any {w : World} {oo : Option Addr} {n c : Nat} {mark : Int} {xs : List Int} {cs : List Comp} (hA : All (ownC 3 (.slice oo n c) (ints xs) :: cs) w) (hn : n ≤ 1048576) (hm : 0 ≤ mark ∧ mark ≤ 100000) : Calls Try.prog 20 #[.slice oo n c, .int .i64 mark] w fun e w' => e = .returned (.bool true) ∧ All cs w' := by
  obtain ⟨hc, hl⟩ := own_cap hA
  rw [List.length_map] at hl
  obtain ⟨m0, m1⟩ := hm
  have HA0 := hid hA
  have HL := hid hl.symm
  clear hA hl
  go_enter Try.func20, Try.ntmps20
  go_wp2
  go_loopw [6] (fun s wr => ∃ (k : Nat) (ys : List Int), k ≤ n ∧ ys.length = n ∧ (∀ j, j < k → ys[j]? = some (mark + j)) ∧ s = .int .i64 (k : Int) ∧ All (ownC 3 (.slice oo n c) (ints ys) :: cs) wr) (fun s _ => n - (intOf s).toNat)
  case atStart => exact ⟨0, xs, Nat.zero_le _, HL.out, fun j h => by omega, rfl, HA0.out⟩
  case round =>
    obtain ⟨k, ys, hk, hyl, hall, rfl, hA⟩ := hrel
    have HA := hid hA
    have HYL := hid hyl
    have HALL := hid hall
    clear hA hyl hall HA0
    by_cases hlt : k < n
    · obtain ⟨y, hy⟩ : ∃ y, ys[k]? = some y := ⟨_, List.getElem?_eq_getElem (by rw [HYL.out]; exact hlt)⟩
      obtain ⟨g, rfl, hcl⟩ := own_at HA.out (int_cell hy)
      have hfz := own_free HA.out k
      have HN := hid (own_set HA.out hlt (.int .i64 (mark + k)))
      have hwr : IntKind.i64.wrap (mark + (k : Int)) = mark + (k : Int) := by rw [IntKind.wrap_i64]; omega
      clear hy
      go_wp2
      exact ⟨⟨k + 1, ys.set k (mark + k), by omega, by rw [List.length_set]; exact HYL.out, fun j hj => by
        rw [List.getElem?_set]
        by_cases e : k = j
        · subst e; rw [if_pos rfl, if_pos (by rw [HYL.out]; exact hlt)]
        · rw [if_neg e]; exact HALL.out j (by omega), rfl, by
        have := HN.out
        simpa [ints, List.map_set] using this⟩, by simp [intOf]; omega⟩
    · obtain rfl : k = n := by omega
      clear hlt hk
      go_wp2
      go_loopw [0, 7] (fun u s wx => ∃ (j oc2 : Nat) (oo2 : Option Addr) (zs : List Int), j ≤ 12 ∧ zs.length = k + j ∧ (∀ i, i < k → zs[i]? = some (mark + i)) ∧ u = .slice oo2 (k + j) oc2 ∧ s = .int .i64 (j : Int) ∧ All (ownC 3 u (ints zs) :: cs) wx) (fun _ s _ => 12 - (intOf s).toNat)
      case atStart => exact ⟨0, c, oo, ys, by omega, by rw [HYL.out]; rfl, HALL.out, rfl, rfl, HA.out⟩
      case round =>
        obtain ⟨j, oc2, oo2, zs, hj, hzl, hzs, rfl, rfl, hA⟩ := hrel
        have HA10 := hid hA
        have HZL := hid hzl
        have HZS := hid hzs
        clear hA hzl hzs HA
        by_cases hlt2 : j < 12
        · have hwr : IntKind.i64.wrap (mark - 1) = mark - 1 := by rw [IntKind.wrap_i64]; omega
          have A1 := hid (HA10.out.alloc (.cells #[.int .i64 (mark - 1)] 3))
          have hb8 : (zs.length + [mark - 1].length) * 8 ≤ 140737488355328 := by have := HZL.out; rw [List.length_singleton]; omega
          go_wp2_with (at_builtin; refine wpList_app rfl rfl A1.out rfl rfl (ints_new _ _) hb8 ?_; intro v' w' hA2 hf hsz; obtain ⟨oo3, oc3, rfl⟩ := hf; have HA2 := hid hA2; clear hA2 hsz)
          have hfin := hid (show All (ownC 3 (.slice oo3 (k + (j + 1)) oc3) (ints (zs ++ [mark - 1])) :: cs) w' by
            have h := HA2.out
            rw [HZL.out] at h
            exact h)
          clear HA2 A1 HA10
          have hzl2 := HZL.out
          go_wp2
          exact ⟨⟨j + 1, oc3, oo3, zs ++ [mark - 1], by omega, by rw [List.length_append, HZL.out]; rfl, fun i hi => by
            rw [List.getElem?_append_left (by omega)]; exact HZS.out i hi, by rw [hzl2]; rfl, rfl, by rw [hzl2]; exact hfin.out⟩, by simp [intOf]; omega⟩
        · have hjj : j = 12 := by omega
          have hcap2 := (own_cap HA10.out).1
          clear hlt2 hj
          subst hjj
          obtain ⟨w3, hw3⟩ : ∃ w3, w3 = wr := ⟨_, rfl⟩
          rw [← hw3] at HA10 ⊢
          clear hw3
          go_wp2
          go_loopw [8] (fun s wy => ∃ i : Nat, i ≤ k ∧ s = .int .i64 (i : Int) ∧ ∃ q, wy = w3.drewN q) (fun s _ => k - (intOf s).toNat)
          case atStart => exact ⟨0, Nat.zero_le _, rfl, 0, rfl⟩
          case round =>
            obtain ⟨i, hi, rfl, hq⟩ := hrel
            have hcw : ∀ b o, wr.cell? ⟨b, o, none⟩ = w3.cell? ⟨b, o, none⟩ := fun b o => by obtain ⟨q, rfl⟩ := hq; rfl
            have HQ := hid hq
            clear hq
            by_cases hlt3 : i < k
            · obtain ⟨g, rfl, hcl⟩ := own_at HA10.out (int_cell (HZS.out i hlt3))
              have c1 : wr.cell? ⟨g, i, none⟩ = some (.int .i64 (mark + i)) := (hcw _ _).trans hcl
              have hwr : IntKind.i64.wrap (mark + (i : Int)) = mark + (i : Int) := by rw [IntKind.wrap_i64]; omega
              have dd : (mark + (i : Int) != mark + (i : Int)) = false := by simp
              have hi12 : (i : Int) < ((k + 12 : Nat) : Int) := by omega
              clear hcw hcl
              go_wp2
              exact ⟨⟨i + 1, by omega, rfl, HQ.out⟩, by simp [intOf]; omega⟩
            · have hik : i = k := by omega
              have hA12 : All cs wr := by obtain ⟨q, rfl⟩ := HQ.out; exact HA10.out.tail.drewN q
              have HA12 := hid hA12
              clear hcw hik hA12
              go_wp2
              go_ret
              exact ⟨rfl, HA12.out⟩
end Go.Proofs.Ytkaigmoeagjjgaa

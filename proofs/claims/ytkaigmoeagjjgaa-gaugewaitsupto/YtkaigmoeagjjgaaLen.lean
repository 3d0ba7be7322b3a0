import Derived.Test.YtkaigmoeagjjgaaApp
import Derived.Test.YtkaigmoeagjjgaaOwn
namespace Go.Proofs.Ytkaigmoeagjjgaa
open Go.RowKit
set_option linter.unusedVariables false

theorem All.join {c : Comp} {cs : List Comp} {w w' : World} (h : All cs w) (h2 : All [c, inC w] w') : All (c :: cs) w' := by
  have hb := inC_of (w := w) h2 (by simp)
  refine ⟨h2.1, fun d hd k hk hkd => ?_, h.later hb⟩
  have h3 := h2.2.1 (inC w) (by simp) k hk
  have := (h.mem hd).2.2 k hkd
  exact h3 (List.mem_range.2 this)
theorem own_set {t : TypeId} {g n c : Nat} {vs : List Value} {cs : List Comp} {w : World} (h : All (ownC t (.slice (some ⟨g, 0, none⟩) n c) vs :: cs) w) {j : Nat} (hj : j < n) (u : Value) : All (ownC t (.slice (some ⟨g, 0, none⟩) n c) (vs.set j u) :: cs) (w.setCell ⟨g, j, none⟩ u) := by
  have h' : w.ownsRow 0 t 1 (.slice (some ⟨g, 0, none⟩) n c) vs.length vs := h.1.2.1
  rcases h'.2 with ⟨e, e2⟩ | ⟨g', cap, cur, e, hg0, hg, hn', hm, hcs, ht⟩
  · cases e
  · simp only [Value.slice.injEq, Option.some.injEq, Addr.mk.injEq, and_true] at e
    obtain ⟨rfl, rfl, rfl⟩ := e
    refine h.turn ((Fr.setCell w g j u).mono (fun k hk => by simpa [ownC, Value.ownBlock] using hk)) (ownC_good _ _ _) ?_ (fun k hk => Or.inl hk) (fun k hk => ?_)
    · refine ⟨by rw [Nat.mul_one], Or.inr ⟨g, c, cur.setIfInBounds j u, ?_, hg0, ?_, ?_, hm, by simpa using hcs, ?_⟩⟩
      · rw [List.length_set]
      · have := heap_setCell_same (j := j) hg u
        simpa using this
      · rw [List.length_set]; exact hn'
      · rw [List.length_set, Array.toList_setIfInBounds, List.take_set, ht]
    · have hk' : k = g := by simpa [ownC, Value.ownBlock, eq_comm] using hk
      subst hk'
      have := (Array.getElem?_eq_some_iff.1 hg).1
      simpa [World.setCell] using this

def lentL (l : List Int) : List Int := l ++ List.replicate 8 (-77)
theorem copied_any {w : World} {v : Value} {l : List Int} (h : IntsAt w v l) (hz : l.length * 8 ≤ 140737488351232) : Calls Try.prog 26 #[v] w fun e w' => ∃ u, e = .returned u ∧ All [ownC 3 u (ints l), inC w] w' := by
  obtain ⟨ao, c, rfl⟩ := h.form
  have A0 := hid (own_nil (All.came w))
  have HI := hid (h.later (ba w (.cells #[] 3)))
  have hb8 : (([] : List Int).length + l.length) * 8 ≤ 140737488355328 := by simp; omega
  clear h
  go_enter Try.func26, Try.ntmps26
  go_wp2_with (at_builtin; refine wpList_app rfl rfl A0.out rfl rfl HI.out hb8 ?_; intro v' w' hA2 hf hsz; obtain ⟨oo2, oc2, rfl⟩ := hf; have HA2 := hid hA2; clear hA2 hsz)
  go_ret
  refine ⟨_, rfl, ?_⟩
  have h9 : All [ownC 3 (.slice oo2 l.length oc2) (ints l), inC w] w' := by
    have := HA2.out
    simpa only [List.nil_append, List.length_nil, Nat.zero_add] using this
  exact h9

set_option maxHeartbeats 1000000 in
theorem lent_any {w : World} {v : Value} {l : List Int} (h : IntsAt w v l) (hz : l.length * 8 ≤ 140737488351232) : Calls Try.prog 10 #[v] w fun e w' => ∃ u, e = .returned u ∧ All [ownC 3 u (ints (lentL l)), inC w] w' := by
  obtain ⟨ao, c, rfl⟩ := h.form
  have cc := hid (copied_any h hz)
  clear h
  go_enter Try.func10, Try.ntmps10
  go_wp2_with fail
  refine cc.out.mono ?_
  rintro e w1 ⟨u, rfl, hA⟩
  obtain ⟨o1, c1, rfl⟩ := owns_form (show w1.ownsRow 0 3 1 u _ _ from hA.1.2.1)
  have hl1 : (ints l).length = l.length := by simp
  rw [hl1] at hA ⊢
  have HA := hid hA
  clear hA cc hl1
  go_wp2
  go_loopw [3, 4] (fun u s wr => ∃ (k oc : Nat) (oo : Option Addr), k ≤ 8 ∧ u = .slice oo (l.length + k) oc ∧ s = .int .i64 (k : Int) ∧ All [ownC 3 u (ints (l ++ List.replicate k (-77))), inC w] wr) (fun _ s _ => 8 - (intOf s).toNat)
  case atStart => exact ⟨0, c1, o1, by omega, rfl, rfl, by simpa using HA.out⟩
  case round =>
    obtain ⟨k, oc, oo, hk, rfl, rfl, hA⟩ := hrel
    have HA2 := hid hA
    clear hA HA
    by_cases hlt : k < 8
    · have A1 := hid (HA2.out.alloc (.cells #[.int .i64 (-77)] 3))
      have hlen : (l ++ List.replicate k (-77 : Int)).length = l.length + k := by simp
      have HLN := hid hlen
      have hb8 : ((l ++ List.replicate k (-77 : Int)).length + [(-77 : Int)].length) * 8 ≤ 140737488355328 := by rw [hlen, List.length_singleton]; omega
      have hlt' : ((k : Int) < 8) := by omega
      clear hlen
      go_wp2_with (at_builtin; refine wpList_app rfl rfl A1.out rfl rfl (ints_new _ _) hb8 ?_; intro v' w' hA2 hf hsz; obtain ⟨oo2, oc2, rfl⟩ := hf; have HA3 := hid hA2; clear hA2 hsz)
      have hfin := hid (show All [ownC 3 (.slice oo2 (l.length + (k + 1)) oc2) (ints (l ++ List.replicate (k + 1) (-77))), inC w] w' by
        have h := HA3.out
        rw [List.append_assoc, ← List.replicate_succ'] at h
        rw [HLN.out] at h
        exact h)
      clear HA3 A1 HA2
      go_wp2
      exact ⟨⟨k + 1, oc2, oo2, by omega, rfl, rfl, hfin.out⟩, by simp [intOf]; omega⟩
    · obtain rfl : k = 8 := by omega
      clear hk hlt
      go_wp2
      go_ret
      exact ⟨_, rfl, HA2.out⟩

theorem lent_front {w : World} {o : Option Addr} {n c : Nat} {l : List Int} (h : IntsAt w (.slice o n c) (lentL l)) : IntsAt w (.slice o l.length c) l := by
  obtain ⟨ao, c', e, hc, ⟨h1, _⟩ | ⟨b, off, rfl, hb, hcell⟩⟩ := h
  · exact absurd (congrArg List.length h1) (by simp [lentL])
  · simp only [Value.slice.injEq] at e
    obtain ⟨rfl, _, rfl⟩ := e
    refine ⟨_, c, rfl, ?_, .inr ⟨b, off, rfl, hb, fun j u hu => hcell j u ?_⟩⟩
    · simp [lentL] at hc; omega
    · have hj := (List.getElem?_eq_some_iff.1 hu).1
      unfold lentL
      have e : ints (l ++ List.replicate 8 (-77)) = ints l ++ ints (List.replicate 8 (-77)) := by simp
      rw [e, List.getElem?_append_left hj]
      exact hu

set_option maxHeartbeats 1000000 in
theorem still_any {w : World} {v u : Value} {l : List Int} (h : IntsAt w v (lentL l)) (h2 : IntsAt w u l) (hz : l.length * 8 ≤ 140737488351232) : Calls Try.prog 14 #[v, u] w fun e w' => e = .returned (.bool true) ∧ ∃ q, w' = w.drewN q := by
  obtain ⟨ao, c, rfl⟩ := h.form
  obtain ⟨bo, d, rfl⟩ := h2.form
  obtain ⟨hc, _⟩ := h.cap
  obtain ⟨hd, _⟩ := h2.cap
  have hl : (lentL l).length = l.length + 8 := by simp [lentL]
  have H1 := hid h
  have H2 := hid h2
  rw [hl] at hc H1 ⊢
  clear h h2 hl
  go_enter Try.func14, Try.ntmps14
  go_wp2
  go_loopw [5] (fun s wr => ∃ k : Nat, k ≤ l.length + 8 ∧ s = .int .i64 (k : Int) ∧ ∃ q, wr = w.drewN q) (fun s _ => l.length + 8 - (intOf s).toNat)
  case atStart => exact ⟨0, Nat.zero_le _, rfl, 0, rfl⟩
  case round =>
    obtain ⟨k, hk, rfl, hq⟩ := hrel
    have hcw : ∀ b o, wr.cell? ⟨b, o, none⟩ = w.cell? ⟨b, o, none⟩ := fun b o => by obtain ⟨q, rfl⟩ := hq; rfl
    have HQ := hid hq
    clear hq
    by_cases hlt : k < l.length
    · obtain ⟨x, hx⟩ : ∃ x, l[k]? = some x := ⟨_, List.getElem?_eq_getElem hlt⟩
      have hx2 : (lentL l)[k]? = some x := by unfold lentL; rw [List.getElem?_append_left hlt]; exact hx
      obtain ⟨g, off, rfl, hg, ca⟩ := H1.out.at hx2
      obtain ⟨g', off', rfl, hg', cb⟩ := H2.out.at hx
      have c1 : wr.cell? ⟨g, off + k, none⟩ = some (.int .i64 x) := (hcw _ _).trans ca
      have c2 : wr.cell? ⟨g', off' + k, none⟩ = some (.int .i64 x) := (hcw _ _).trans cb
      have dx : (x != x) = false := by simp
      have hl1 : (k : Int) < (l.length : Int) := by omega
      have hl2 : decide ((k : Int) < (l.length : Int)) = true := by simpa using hl1
      have hl3 : decide ((l.length : Int) ≤ (k : Int)) = false := by simp; omega
      have hl5 : decide (k < l.length) = true := by simpa using hlt
      have hl6 : decide (l.length ≤ k) = false := by simp; omega
      have hl4 : k < l.length + 8 := by omega
      have hl7 : (k : Int) < ((l.length + 8 : Nat) : Int) := by omega
      clear hx hx2 hcw ca cb
      go_upto_region 6 with fail
      go_quiet (fail)
      go_wp2
      go_roundw
      case rel => exact ⟨k + 1, by omega, rfl, by obtain ⟨q, rfl⟩ := HQ.out; exact ⟨q + nq, World.drewN_drewN _ _ _⟩⟩
      case measure => simp [intOf]; omega
    · by_cases hlt2 : k < l.length + 8
      · have hx2 : (lentL l)[k]? = some (-77) := by
          unfold lentL
          rw [List.getElem?_append_right (by omega), List.getElem?_replicate, if_pos (by omega)]
        obtain ⟨g, off, rfl, hg, ca⟩ := H1.out.at hx2
        have c1 : wr.cell? ⟨g, off + k, none⟩ = some (.int .i64 (-77)) := (hcw _ _).trans ca
        have hl1 : ¬ (k : Int) < (l.length : Int) := by omega
        have hl2 : decide ((k : Int) < (l.length : Int)) = false := by simpa using hl1
        have hl3 : decide ((l.length : Int) ≤ (k : Int)) = true := by simp; omega
        have hl5 : decide (k < l.length) = false := by simpa using hlt
        have hl6 : decide (l.length ≤ k) = true := by simp; omega
        have hl7 : (k : Int) < ((l.length + 8 : Nat) : Int) := by omega
        clear hx2 hcw ca
        go_upto_region 6 with fail
        go_quiet (fail)
        go_wp2
        go_roundw
        case rel => exact ⟨k + 1, by omega, rfl, by obtain ⟨q, rfl⟩ := HQ.out; exact ⟨q + nq, World.drewN_drewN _ _ _⟩⟩
        case measure => simp [intOf]; omega
      · have hl7 : ¬ (k : Int) < (l.length : Int) + 8 := by omega
        clear hlt hcw
        go_wp2
        go_ret
        exact ⟨rfl, HQ.out⟩
end Go.Proofs.Ytkaigmoeagjjgaa

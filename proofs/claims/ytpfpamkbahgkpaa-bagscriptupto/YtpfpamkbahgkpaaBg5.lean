import Derived.Test.YtpfpamkbahgkpaaBg4
namespace Go.Proofs.Ytpfpamkbahgkpaa
open Go.RowKit
set_option linter.unusedVariables false

theorem perm12 (a c d : Comp) (X : List Comp) : (a :: c :: d :: X).Perm (c :: d :: a :: X) := by
  have := perm_by 4 [[a], [c], [d], X] [1, 2, 0, 3] rfl (by decide)
  simpa [List.getD] using this
theorem Bg.at_ps {B : Bg} {k : Int} (h : hasB k B.ps.length = true) : ∃ p, B.ps[k.toNat]? = some p ∧ p ∈ B.ps ∧ B.ab.at k = p.ap ∧ k.toNat < B.ps.length ∧ k = (k.toNat : Int) := by
  have h' : 0 ≤ k ∧ k < B.ps.length := of_decide_eq_true h
  have hk : k.toNat < B.ps.length := by omega
  refine ⟨B.ps[k.toNat], List.getElem?_eq_getElem hk, List.getElem_mem hk, ?_, hk, by omega⟩
  unfold AB.at
  rw [B.ab_len, if_pos h, List.getD_eq_getElem?_getD]
  simp [Bg.ab, hk]

/-- The cells of a packet in a bag's row. -/
theorem row_at {w : World} {v : Value} {ps : List Pk} {i : Nat} {p : Pk} (h : w.ownsRow 0 49 6 v ps.length (flatP ps)) (hp : ps[i]? = some p) : ∃ g c, v = .slice (some ⟨g, 0, none⟩) ps.length c ∧ g < w.heap.size ∧ w.rangeAt g (i * 6) p.cells ∧ (∀ j, w.frozen? ⟨g, j, none⟩ = false) := by
  obtain ⟨ao, c, rfl, hc⟩ := owns6_form h
  obtain ⟨g, rfl, hg, hr⟩ := owns6 h hp
  refine ⟨g, c, rfl, hg, hr, fun j => ?_⟩
  rcases h.2 with ⟨e, e2⟩ | ⟨g', cap, cur, e, _, hgg, hn, hm, hcs, ht⟩
  · cases e
  · simp only [Value.slice.injEq, Option.some.injEq, Addr.mk.injEq, and_true] at e
    rw [e.1]
    exact free_at hgg j

set_option maxRecDepth 1000000 in
theorem Dup_no {B : Bg} {k : Int} {cs : List Comp} {w : World} (h : All (B.L ++ cs) w) (hn : B.ps.length ≤ 1024) (hk : hasB k B.ps.length = false) : Calls Try.prog 29 #[B.V, .int .i64 k] w fun e w' => e = .returned (.int .i64 152) ∧ w' = w := by
  obtain ⟨ao', c', hv, hc⟩ := h.bagForm
  have hb := All.bagBlk (cs := []) h
  rw [hv] at hb
  have D := hid (has_any hb (by omega) k)
  rw [hk] at D
  clear h hb hv
  go_enter Try.func29, Try.ntmps29
  go_wp2_with (first | (go_at_call 49; refine D.out.mono ?_; rintro e w' ⟨rfl, rfl⟩))
  go_ret
  exact ⟨rfl, rfl⟩
set_option maxRecDepth 1000000 in
theorem Dup_full {B : Bg} {k : Int} {cs : List Comp} {w : World} (h : All (B.L ++ cs) w) (hn : B.ps.length ≤ 1024) (hk : hasB k B.ps.length = true) (hf : fullB B.ps.length B.r = true) : Calls Try.prog 29 #[B.V, .int .i64 k] w fun e w' => e = .returned (.int .i64 155) ∧ ∃ q, w' = w.drewN q := by
  obtain ⟨ao', c', hv, hc⟩ := h.bagForm
  have hb := All.bagBlk (cs := []) h
  rw [hv] at hb
  have D := hid (has_any hb (by omega) k)
  rw [hk] at D
  have E := hid (full_any hb (by omega))
  rw [hf] at E
  clear h hb hv
  go_enter Try.func29, Try.ntmps29
  go_wp2_with (first | (go_at_call 49; refine D.out.mono ?_; rintro e w' ⟨rfl, rfl⟩) | (go_at_call 46; refine E.out.mono ?_; rintro e w' ⟨rfl, q, rfl⟩))
  go_ret
  exact ⟨rfl, q, rfl⟩
set_option maxHeartbeats 800000 in
set_option maxRecDepth 1000000 in
theorem Dup_ok {B : Bg} {i : Nat} {p : Pk} {cs : List Comp} {w : World} (h : All (B.L ++ cs) w) (hn : B.ps.length ≤ 1024) (h0 : 0 ≤ B.l) (hl : B.l < 4611686018427387904) (hp : B.ps[i]? = some p) (hf : fullB B.ps.length B.r = false) : Calls Try.prog 29 #[B.V, .int .i64 (i : Int)] w fun e w' => e = .returned (.int .i64 0) ∧ ∃ v, All ((B.lay p v).L ++ cs) w' := by
  have hi : i < B.ps.length := (List.getElem?_eq_some_iff.1 hp).1
  obtain ⟨g, c, hv, hg, hrg, _⟩ := row_at (All.bagRow (cs := []) h) hp
  have hb := All.bagBlk (cs := []) h
  rw [hv] at hb
  have D := hid (has_any hb (by omega) (i : Int))
  rw [show hasB (i : Int) B.ps.length = true from decide_eq_true (by omega)] at D
  have E := hid (full_any hb (by omega))
  rw [hf] at E
  have F := hid (fun q => lay_any (p := p) (h.drewN q) h0 hl hn)
  have t2 : w.cell? ⟨B.b, 2, none⟩ = some (.slice (some ⟨g, 0, none⟩) B.ps.length c) := by rw [cell_at hb]; rfl
  obtain ⟨s1, s2, s3, s4, s5, s6⟩ := pkAt_of hrg
  clear h hb hv hp hrg hf h0 hl
  obtain ⟨n, hnn⟩ : ∃ n, Hid (n = B.ps.length) := ⟨_, hid rfl⟩
  rw [← hnn.out] at t2 hi
  have hii : (i : Int) < (n : Int) := by omega
  go_enter Try.func29, Try.ntmps29
  go_wp2_with (first | (go_at_call 49; refine D.out.mono ?_; rintro e w' ⟨rfl, rfl⟩) | (go_at_call 46; refine E.out.mono ?_; rintro e w' ⟨rfl, q, rfl⟩) | (go_at_call 47; refine (F.out q).mono ?_; rintro e w2 ⟨rfl, v, A2⟩; have A2 := hid A2; clear F))
  go_ret
  exact ⟨rfl, v, A2.out⟩
end Go.Proofs.Ytpfpamkbahgkpaa

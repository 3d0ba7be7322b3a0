import Derived.Test.YtpfpamkbahgkpaaHolds
import Derived.Deep.AppendLies
import Derived.Deep.RegionLaw
namespace Go.Proofs.Ytpfpamkbahgkpaa
open Go.RowKit
set_option linter.unusedVariables false
attribute [local go_sem ↓] Go.wp_at_zero Go.wp_at_succ


/-- The shelf's own block. -/
def boxC (S : Nat) (ov wv : Value) : Comp := ⟨fun w => w.heap[S]? = some (.cells #[ov, wv] 30 (0, 0)), [S]⟩
/-- A list of lists of one's own. -/
def slC (v : Value) (vs : List Value) : Comp := ⟨fun w => w.ownsRow 0 31 1 v vs.length vs, v.ownBlock.toList⟩

theorem boxC_good (S : Nat) (ov wv : Value) : (boxC S ov wv).Good := by
  intro w w' h hs hb
  show w'.heap[S]? = _
  rw [hb S (by simp [boxC])]; exact h

theorem slC_good (v : Value) (vs : List Value) : (slC v vs).Good := by
  intro w w' h hs hb
  exact ⟨h.1, by
    rcases h.2 with hn | ⟨g, cap, cur, rfl, hg, hgg, rest⟩
    · exact Or.inl hn
    · exact Or.inr ⟨g, cap, cur, rfl, hg, by rw [hb g (by simp [slC, Value.ownBlock])]; exact hgg, rest⟩⟩

theorem All.sl_append {v v' x : Value} {vs : List Value} {cs : List Comp} {w w1 : World} {base : Nat} (h : All (slC v vs :: cs) w) (hown : w1.ownsRow base 31 1 v' (vs.length + 1) (vs ++ [x])) (hg : w.grownBy w1 v.ownBlock) (hat : v'.ownBlock = v.ownBlock ∨ v'.ownBlock = some w.heap.size) : All (slC v' (vs ++ [x]) :: cs) w1 := by
  have ho : w1.ownsRow 0 31 1 v' (vs ++ [x]).length (vs ++ [x]) := by rw [List.length_append]; exact owns_zero hown
  refine h.turn (grown_fr hg) (slC_good _ _) ho (fun k hk => ?_) (fun k hk => ?_)
  · have hk' : v'.ownBlock = some k := by simpa [slC] using hk
    rcases hat with e | e
    · exact Or.inl (by simp [slC, ← e, hk'])
    · rw [e] at hk'; simp at hk'; exact Or.inr (by omega)
  · have hk' : v'.ownBlock = some k := by simpa [slC] using hk
    exact (World.ownsRow.lt ho k hk').2

theorem All.box_set0 {S : Nat} {ov wv u : Value} {cs : List Comp} {w : World} (h : All (boxC S ov wv :: cs) w) : All (boxC S u wv :: cs) (w.setCell ⟨S, 0, none⟩ u) := by
  refine h.turn (Fr.setCell w S 0 u) (boxC_good _ _ _) ?_ (Gr.refl _ _) (fun k hk => ?_)
  · show (w.setCell ⟨S, 0, none⟩ u).heap[S]? = _
    rw [heap_setCell_same h.1.2.1]; rfl
  · have := h.1.2.2 k hk
    simpa [World.setCell] using this

theorem All.box_set1 {S : Nat} {ov wv u : Value} {cs : List Comp} {w : World} (h : All (boxC S ov wv :: cs) w) : All (boxC S ov u :: cs) (w.setCell ⟨S, 1, none⟩ u) := by
  refine h.turn (Fr.setCell w S 1 u) (boxC_good _ _ _) ?_ (Gr.refl _ _) (fun k hk => ?_)
  · show (w.setCell ⟨S, 1, none⟩ u).heap[S]? = _
    rw [heap_setCell_same h.1.2.1]; rfl
  · have := h.1.2.2 k hk
    simpa [World.setCell] using this

theorem owns_one {w : World} {base : Nat} {e : TypeId} {size : Nat} {v : Value} {n : Nat} {xs : List Value} (h : w.ownsRow base e size v n xs) : v.oneCell' = true := by
  rcases h.2 with ⟨rfl, _⟩ | ⟨g, cap, cur, rfl, _⟩ <;> rfl

section
variable {S : Nat} {ov wv lv mv : Value} {us ms : List Value} {xs : List UInt8} {cs : List Comp} {w3 w4 : World}

/-- A copy was made: the shelf's parts behind it. -/
theorem keep_row (h : All (byR mv xs :: boxC S ov wv :: slC ov us :: slC wv ms :: byR lv xs :: cs) w3) (o : Obj) : (w3.alloc o).ownsRow 0 31 1 wv ms.length ms :=
  World.ownsRow.alloc (h.2.2.2.2.2.2.1.2.1 : w3.ownsRow 0 31 1 wv ms.length ms) o

theorem keep_cell0 (h : All (byR mv xs :: boxC S ov wv :: slC ov us :: slC wv ms :: byR lv xs :: cs) w3) : w3.cell? ⟨S, 1, none⟩ = some wv := by
  rw [cell_at (h.2.2.1.2.1 : w3.heap[S]? = some (.cells #[ov, wv] 30 (0, 0)))]; rfl

theorem keep_free0 (h : All (byR mv xs :: boxC S ov wv :: slC ov us :: slC wv ms :: byR lv xs :: cs) w3) : w3.frozen? ⟨S, 1, none⟩ = false := free_at (h.2.2.1.2.1 : w3.heap[S]? = some (.cells #[ov, wv] 30 (0, 0))) 1

theorem keep_lt (h : All (byR mv xs :: boxC S ov wv :: slC ov us :: slC wv ms :: byR lv xs :: cs) w3) : S < w3.heap.size := h.2.2.1.2.2 S (by simp [boxC])

theorem keep_after {g cap : Nat} (h : All (byR mv xs :: boxC S ov wv :: slC ov us :: slC wv ms :: byR lv xs :: cs) w3) (hown : w4.ownsRow 0 31 1 (.slice (some ⟨g, 0, none⟩) (ms.length + 1) cap) (ms.length + 1) (ms ++ [mv])) (hg : (w3.alloc (.cells #[mv] 31)).grownBy w4 wv.ownBlock) (hat : wv.ownBlock = some g ∨ g = w3.heap.size + 1) :
    All (boxC S ov wv :: slC ov us :: slC (.slice (some ⟨g, 0, none⟩) (ms.length + 1) cap) (ms ++ [mv]) :: byR lv xs :: byR mv xs :: cs) w4 := by
  have h1 := h.alloc (.cells #[mv] 31)
  have p : (byR mv xs :: boxC S ov wv :: slC ov us :: slC wv ms :: byR lv xs :: cs).Perm (slC wv ms :: boxC S ov wv :: slC ov us :: byR lv xs :: byR mv xs :: cs) := by
    refine List.Perm.trans (l₂ := byR mv xs :: slC wv ms :: boxC S ov wv :: slC ov us :: byR lv xs :: cs) ?_ ?_
    · refine List.Perm.cons _ ?_
      exact (List.perm_middle (a := slC wv ms) (l₁ := [boxC S ov wv, slC ov us]) (l₂ := byR lv xs :: cs))
    · exact (List.perm_middle (a := byR mv xs) (l₁ := [slC wv ms, boxC S ov wv, slC ov us, byR lv xs]) (l₂ := cs)).symm
  have h2 := (h1.perm p).sl_append hown hg (by
    rcases hat with e | e
    · exact Or.inl e.symm
    · right; simp [Value.ownBlock, e])
  refine h2.perm ?_
  exact (List.perm_middle (a := slC (.slice (some ⟨g, 0, none⟩) (ms.length + 1) cap) (ms ++ [mv])) (l₁ := [boxC S ov wv, slC ov us]) (l₂ := byR lv xs :: byR mv xs :: cs)).symm

theorem keep_cell {cs : List Comp} (h : All (boxC S ov wv :: cs) w4) : w4.cell? ⟨S, 1, none⟩ = some wv := by
  rw [cell_at (h.1.2.1 : w4.heap[S]? = some (.cells #[ov, wv] 30 (0, 0)))]; rfl
theorem keep_free {cs : List Comp} (h : All (boxC S ov wv :: cs) w4) : w4.frozen? ⟨S, 1, none⟩ = false := free_at (h.1.2.1 : w4.heap[S]? = some (.cells #[ov, wv] 30 (0, 0))) 1
end

set_option maxHeartbeats 3200000 in
set_option maxRecDepth 1000000 in
theorem keep_any {w : World} {S : Nat} {ov wv : Value} {us ms : List Value} {lv : Value} {xs : List UInt8} {cs : List Comp} (h : All (boxC S ov wv :: slC ov us :: slC wv ms :: byR lv xs :: cs) w) (hlen : xs.length ≤ 140737488351300) (ha : us.length ≤ 1099511627776) (hm : ms.length ≤ 1099511627776) :
    Calls Try.prog 35 #[.pointer (some ⟨S, 0, none⟩), lv] w fun e w' => e = .returned (.tuple #[]) ∧ ∃ ov' wv' m, All (boxC S ov' wv' :: slC ov' (us ++ [lv]) :: slC wv' (ms ++ [m]) :: byR lv xs :: byR m xs :: cs) w' := by
  obtain ⟨i0, hi, hz0, hz1, hz2⟩ := info_parts Try.info31
  have hbox : w.heap[S]? = some (.cells #[ov, wv] 30 (0, 0)) := h.1.2.1
  have horow : w.ownsRow 0 31 1 ov us.length us := h.2.2.1.2.1
  have hwrow : w.ownsRow 0 31 1 wv ms.length ms := h.2.2.2.2.1.2.1
  have hlrow : w.ownsRow 0 5 1 lv xs.length (cellsB xs) := h.2.2.2.2.2.2.1.2.1
  obtain ⟨ao, c, eo⟩ := owns_form horow
  obtain ⟨aw, cw, ew⟩ := owns_form hwrow
  obtain ⟨al, cl, el⟩ := owns_form hlrow
  subst eo ew el
  have HA := hid h
  have c0 : w.cell? ⟨S, 0, none⟩ = some (.slice ao us.length c) := by rw [cell_at hbox]; rfl
  have c1 : w.cell? ⟨S, 1, none⟩ = some (.slice aw ms.length cw) := by rw [cell_at hbox]; rfl
  clear h hbox hwrow hlrow
  go_enter Try.func35, Try.ntmps35
  go_wp2_with (at_builtin; refine wpList_append_own_at _ rfl (.tmp 8) (.tmp 10) 28 rfl 0 31 i0 (.slice none 0 0) 1 24 Try.underlying28 hi hz0 hz1 hz2 rfl (by decide) _ _ _ rfl (horow.alloc _) ⟨w.heap.size, 0, none⟩ 1 1 [.slice al xs.length cl] rfl rfl (cell_one_new _ _ _) (fun u hu => by simp at hu; subst hu; rfl) (by unfold maxLen; omega) (by omega) (by omega) ?_)
  intro ov' w1 hown hgr hnil hat
  have A1 := hid (((HA.out.alloc (.cells #[.slice al xs.length cl] 31)).swap).sl_append hown hgr (by simpa using hat)).swap
  obtain ⟨ao', c', eo⟩ := owns_form hown
  subst eo
  clear hown hgr hnil hat horow
  have hb1 := A1.out.1.2.1
  have d0 : w1.cell? ⟨S, 0, none⟩ = some (.slice ao us.length c) := by rw [cell_at hb1]; rfl
  have d1 : w1.cell? ⟨S, 1, none⟩ = some (.slice aw ms.length cw) := by rw [cell_at hb1]; rfl
  have f0 : w1.frozen? ⟨S, 0, none⟩ = false := free_at hb1 0
  have A2 := hid (A1.out.box_set0 (u := .slice ao' (us.length + 1) c'))
  clear hb1 c0 c1
  go_wp2
  generalize w1.setCell ⟨S, 0, none⟩ (.slice ao' (us.length + 1) c') = w2 at *
  have hb2 := A2.out.1.2.1
  have e1 : w2.cell? ⟨S, 1, none⟩ = some (.slice aw ms.length cw) := by rw [cell_at hb2]; rfl
  have f1 : w2.frozen? ⟨S, 1, none⟩ = false := free_at hb2 1
  have AD := hid A2.out.drew
  have RL := hid (Reads.of_owns (AD.out.2.2.2.2.2.2.1.2.1 : (w2.drew).ownsRow 0 5 1 (.slice al xs.length cl) xs.length (cellsB xs)))
  clear d0 d1 f0 hb2 A1 HA
  go_region_law (first | (refine step_append_lies _ (by rfl) (.tmp 18) (.tmp 21) 28 (by rfl) 0 31 i0 (.slice none 0 0) 1 24 Try.underlying28 hi hz0 hz1 hz2 rfl (by decide) (.slice aw ms.length cw) ms.length ms (by rfl) hwr ⟨w3.heap.size, 0, none⟩ 1 1 [.slice vx xs.length vy] (by rfl) rfl (cell_one_new _ _ _) (fun u hu => by simp at hu; subst hu; rfl) (by omega) (by unfold maxLen; omega) (by omega) (by omega) (w3.heap.size + 1) (by simp) ?_; intro g cap w4 hown hgr hat hlt4; have A5 := hid (keep_after A3.out hown hgr hat); have q1 : w4.cell? ⟨S, 1, none⟩ = some (.slice aw ms.length cw) := keep_cell A5.out; have q2 : w4.frozen? ⟨S, 1, none⟩ = false := keep_free A5.out) | (go_simp; go_at_call 22; refine (lcopied_any RL.out hlen).mono ?_; rintro e w3 ⟨v3, rfl, hm1, hm2⟩; obtain ⟨vx, vy, hv3⟩ := owns_form hm1; subst hv3; have A3 := hid (AD.out.addByR hm2 hm1); have hwr := keep_row A3.out (.cells #[.slice vx xs.length vy] 31); have e2 : w3.cell? ⟨S, 1, none⟩ = some (.slice aw ms.length cw) := keep_cell0 A3.out; have f2 : w3.frozen? ⟨S, 1, none⟩ = false := keep_free0 A3.out; have hlt3 : S < w3.heap.size := keep_lt A3.out; clear hm1 hm2))
  all_goals go_wp2
  all_goals go_end0
  all_goals exact ⟨rfl, _, _, _, A5.out.box_set1⟩

end Go.Proofs.Ytpfpamkbahgkpaa

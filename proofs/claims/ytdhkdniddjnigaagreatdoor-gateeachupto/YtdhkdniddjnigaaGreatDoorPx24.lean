import Derived.Test.YtdhkdniddjnigaaGreatDoorPx23
namespace Go.Proofs.YtdhkdniddjnigaaGreatDoor
open Go.RowKit
set_option linter.unusedVariables false

theorem txtV_length (l : List ByteArray) : (txtV l).length = l.length := by simp [txtV]
theorem Tryz.inf9 : (Tryz.prog.info? 9).map (fun i => (i.zero, i.size, i.bytes)) = some (some (.string ⟨#[]⟩), 1, 16) := by kernel_rfl
theorem txtV_one (l : List ByteArray) : ∀ u ∈ txtV l, u.oneCell' = true := by
  intro u hu
  obtain ⟨_, _, rfl⟩ := List.mem_map.1 hu
  rfl

set_option maxHeartbeats 800000 in
set_option maxRecDepth 1000000 in
theorem tclone_some {w : World} (a : Addr) (c : Nat) (l : List ByteArray) (hc : ∀ j u, (txtV l)[j]? = some u → w.cell? (a.add j) = some u) (hg : l ≠ [] → ∃ g o, a = ⟨g, o, none⟩ ∧ g < w.heap.size) (hlen : (l.length + 1) * 16 ≤ 140737488355328) :
    Calls Tryz.prog 130 #[.slice (some a) l.length c] w fun e w' => ∃ s', e = .returned s' ∧ w'.ownsRow w.heap.size 9 1 s' l.length (txtV l) ∧ Below w.heap.size w w' := by
  obtain ⟨i0, hi, hz0, hz1, hz2⟩ := info_parts Tryz.inf9
  have he := fun w => Lib.run_eql_slice_nil (P := Tryz.prog) w 43 9 (some a) l.length c 0 0 Tryz.underlying43
  have hnews : ∀ j u, (txtV l)[j]? = some u → (w.alloc (.cells #[] 9)).cell? (a.add j) = some u := by
    intro j u hu
    have hne : l ≠ [] := by rintro rfl; simp [txtV] at hu
    obtain ⟨g, o, rfl, hgl⟩ := hg hne
    have := hc j u hu
    rw [Addr.add_lit] at this ⊢
    rw [World.cell?_alloc_past _ _ _ hgl]
    exact this
  clear hc hg
  have h0 : (w.alloc (.cells #[] 9)).ownsRow w.heap.size 9 1 (.slice (some ⟨w.heap.size, 0, none⟩) 0 0) 0 [] := World.ownsRow_made w #[] 0 (Nat.le_refl _) (by unfold maxLen; omega) rfl
  go_enter Tryz.func130, Tryz.ntmps130
  go_wp2_with (at_builtin; refine wpList_append_own_at _ rfl (.tmp 5) (.tmp 6) 43 rfl w.heap.size 9 i0 (.string (.mk #[])) 1 16 Tryz.underlying43 hi hz0 hz1 hz2 rfl (by decide) _ _ _ rfl h0 a l.length c (txtV l) rfl (by rw [txtV_length]; omega) hnews (txtV_one _) (by unfold maxLen; omega) (by omega) (by simp) ?_)
  intro v' w1 hown hgr hnil hat
  have R : Hid (w1.ownsRow w.heap.size 9 1 v' l.length (txtV l) ∧ Below w.heap.size w w1) := by
    refine ⟨by simpa using hown, ((Below.refl _ _).alloc (Nat.le_refl _) _).grown hgr (by simp) (fun k hk => ?_)⟩
    simp [Value.ownBlock] at hk
    omega
  clear hown hgr hnil hat h0
  go_wp2
  go_ret
  exact ⟨v', rfl, R.out.1, R.out.2⟩

set_option maxHeartbeats 800000 in
set_option maxRecDepth 1000000 in
theorem tclone_none {w : World} (c : Nat) :
    Calls Tryz.prog 130 #[.slice none 0 c] w fun e w' => e = .returned (.slice none 0 0) ∧ w' = w := by
  have he := fun w => Lib.run_eql_slice_nil (P := Tryz.prog) w 43 9 none 0 c 0 0 Tryz.underlying43
  go_enter Tryz.func130, Tryz.ntmps130
  go_wp2
  go_ret
  exact ⟨rfl, rfl⟩

theorem tclone_any {w : World} {s : Value} {l : List ByteArray} (h : Txts w s l) (hlen : (l.length + 1) * 16 ≤ 140737488355328) :
    Calls Tryz.prog 130 #[s] w fun e w' => ∃ s', e = .returned s' ∧ w'.ownsRow w.heap.size 9 1 s' l.length (txtV l) ∧ Below w.heap.size w w' := by
  obtain ⟨ao, c, rfl, hc, hx⟩ := h
  have hx' : (l = [] ∧ ao = none) ∨ ∃ a, ao = some a ∧ (l ≠ [] → ∃ g o, a = ⟨g, o, none⟩ ∧ g < w.heap.size) ∧ ∀ j u, (txtV l)[j]? = some u → w.cell? (a.add j) = some u := by
    rcases hx with rfl | ⟨g, o, rfl, hg, hcell⟩
    · cases ao with
      | none => exact .inl ⟨rfl, rfl⟩
      | some a => exact .inr ⟨a, rfl, fun h => absurd rfl h, fun j u hu => by simp [txtV] at hu⟩
    · refine .inr ⟨_, rfl, fun _ => ⟨_, _, rfl, hg⟩, fun j u hu => ?_⟩
      simp only [txtV, List.getElem?_map] at hu
      obtain ⟨x, hx, rfl⟩ := Option.map_eq_some_iff.1 hu
      obtain ⟨hj, rfl⟩ := List.getElem?_eq_some_iff.1 hx
      rw [Addr.add_lit]
      exact hcell j hj
  rcases hx' with ⟨rfl, rfl⟩ | ⟨a, rfl, hg, hcell⟩
  · refine (tclone_none c).mono ?_
    rintro e w' ⟨rfl, rfl⟩
    exact ⟨_, rfl, World.ownsRow_nil _ _ _ _, Below.refl _ _⟩
  · exact tclone_some a c l hcell hg hlen

theorem info35 : (Tryz.prog.info? 45).map (·.size) = some 3 := by kernel_rfl
set_option maxHeartbeats 1600000 in
set_option maxRecDepth 1000000 in
/-- A result that is copied. -/
theorem copied_any {w : World} (c n : Int) {ao : Option Addr} {k p : Nat} {l : List ByteArray} (h : Txts w (.slice ao k p) l) (hlen : (l.length + 1) * 16 ≤ 140737488355328) : Calls Tryz.prog 96 #[.agg #[.int .i64 c, .int .i64 n, .slice ao k p]] w fun e w' => ∃ a1 k1 p1, e = .returned (.agg #[.int .i64 c, .int .i64 n, .slice a1 k1 p1]) ∧ Below w.heap.size w w' := by
  have A0 : Hid (All [blkC (w.heap.size + 1) [.int .i64 0, .int .i64 0, .slice none 0 0] 45, blkC w.heap.size [.int .i64 c, .int .i64 n, .slice ao k p] 45, inC w] ((w.alloc (.cells #[.int .i64 c, .int .i64 n, .slice ao k p] 45)).alloc (.cells #[.int .i64 0, .int .i64 0, .slice none 0 0] 45))) := hid (by
    have := ((All.came w).addBlk [.int .i64 c, .int .i64 n, .slice ao k p] 45).addBlk [.int .i64 0, .int .i64 0, .slice none 0 0] 45
    simp only [World.size_alloc] at this
    exact this)
  have C : Hid (∀ W, Below w.heap.size w W → Calls Tryz.prog 130 #[.slice ao k p] W fun e w' => ∃ a1 k1 p1, e = .returned (.slice a1 k1 p1) ∧ Below W.heap.size W w') := hid (fun W hb => (tclone_any (h.later hb) hlen).mono fun e w' ⟨s', he, ho, hb'⟩ => by
    obtain ⟨a1, p1, rfl⟩ := owns_form ho
    exact ⟨a1, _, p1, he, hb'⟩)
  clear h hlen
  go_enter Tryz.func96, Tryz.ntmps96
  go_upto_region 1 with fail
  generalize (w.alloc (.cells #[.int .i64 c, .int .i64 n, .slice ao k p] 45)).alloc (.cells #[.int .i64 0, .int .i64 0, .slice none 0 0] 45) = w1 at A0 ⊢
  generalize w.heap.size + 1 = X2 at *
  have BW := hid (A0.out.into (w0 := w) (by simp))
  obtain ⟨B0, hB0⟩ : ∃ B0, Hid (B0 = w.heap.size) := ⟨_, hid rfl⟩
  rw [← hB0.out] at A0
  have y2 : w1.cell? ⟨w.heap.size, 2, none⟩ = some (.slice ao k p) := by rw [← hB0.out, cell_at A0.out.tail.1.2.1]; rfl
  go_upto_region 2 with (go_at_call 130; refine (C.out _ BW.out).mono ?_; rintro e w2 ⟨a1, k1, p1, rfl, b2⟩; have K2 := hid (A0.out.later b2); clear b2; have z2 : w2.cell? ⟨w.heap.size, 2, none⟩ = some (.slice ao k p) := (by rw [← hB0.out, cell_at K2.out.tail.1.2.1]; rfl); have f2 : w2.frozen? ⟨w.heap.size, 2, none⟩ = false := (by rw [← hB0.out]; exact free_at K2.out.tail.1.2.1 2))
  have K3 : Hid (All (blkC B0 [.int .i64 c, .int .i64 n, .slice a1 k1 p1] 45 :: blkC X2 [.int .i64 0, .int .i64 0, .slice none 0 0] 45 :: [inC w]) (w2.setCell ⟨B0, 2, none⟩ (.slice a1 k1 p1))) := hid (K2.out.swap.setBlk 2 (.slice a1 k1 p1))
  rw [hB0.out] at K3
  clear z2 f2 y2 A0 K2 BW C hB0
  generalize w2.setCell ⟨w.heap.size, 2, none⟩ (.slice a1 k1 p1) = w3 at *
  obtain ⟨RV, hRV⟩ : ∃ RV : List Value, RV = [.int .i64 c, .int .i64 n, .slice a1 k1 p1] := ⟨_, rfl⟩
  have I35 : Hid ((Tryz.prog.info? 45).map (·.size) = some RV.toArray.size) := hid (by rw [hRV]; exact info35)
  have O35 : Hid (RV.toArray.all (·.oneCell') = true) := hid (by rw [hRV]; simp [Value.oneCell'])
  have Z35 : Hid (([.int .i64 0, .int .i64 0, .slice none 0 0] : List Value).toArray.size = RV.toArray.size) := hid (by rw [hRV]; rfl)
  have FE : Hid (Value.agg RV.toArray = .agg #[.int .i64 c, .int .i64 n, .slice a1 k1 p1]) := hid (by rw [hRV])
  rw [← hRV] at K3
  clear hRV
  have H3 := hid K3.out.1.2.1
  have H4 := hid K3.out.tail.1.2.1
  have K4 := hid (K3.out.swap.setRow (vs' := RV))
  go_wp2_with (first | (refine wpList_load_row rfl 45 _ rfl w.heap.size rfl 45 RV.toArray (0, 0) _ H3.out Tryz.underlying45 rfl I35.out ?_) | (refine wpList_store_row rfl 45 _ _ rfl X2 RV.toArray rfl rfl 45 _ H4.out I35.out Z35.out O35.out ?_))
  refine bodyPost_ret (v := .agg RV.toArray) (results_cell_row (fn := Tryz.f96) rfl _ _ X2 45 RV.toArray (0, 0) _ rfl K4.out.1.2.1 Tryz.underlying45 rfl I35.out) rfl ?_
  exact ⟨a1, k1, p1, by rw [FE.out], K4.out.into (by simp)⟩
end Go.Proofs.YtdhkdniddjnigaaGreatDoor

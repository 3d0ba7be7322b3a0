import Derived.Test.YthoppemjfdnibaaGreatDoorJ7
namespace Go.Proofs.YthoppemjfdnibaaGreatDoor
open Go.RowKit
set_option linter.unusedVariables false

theorem xgroup_cell (m : Nat) : [Value.int .u8 ((m : Int) % 128 + 128)] = cellsB [UInt8.ofNat (m % 128 + 128)] := by
  simp only [cellsB, List.map_cons, List.map_nil, UInt8.toNat_ofNat']
  congr 2
  omega

theorem xlow_cell (m : Nat) (h : m < 128) : [Value.int .u8 (m : Int)] = cellsB [UInt8.ofNat m] := by
  simp only [cellsB, List.map_cons, List.map_nil, UInt8.toNat_ofNat']
  congr 2
  omega

/-- A byte more on a list that was made here. -/
theorem made_grow {w0 w w1 : World} {o : Obj} {v : Value} {n : Nat} {xs : List Value} (hb : Below w0.heap.size w0 w) (h : w.ownsRow w0.heap.size 5 1 v n xs) (hg : (w.alloc o).grownBy w1 v.ownBlock) : Below w0.heap.size w0 w1 :=
  (hb.alloc hb.size _).grown hg (by have := hb.size; simp; omega) (fun k hk => (World.ownsRow.lt h k hk).1)

set_option maxHeartbeats 1600000 in
set_option maxRecDepth 1000000 in
theorem xgroups (w : World) (n : Nat) (hn : n < 18446744073709551616) :
    Calls Tryz.prog 86 #[.int .u64 (n : Int)] w fun e w' => ∃ s', e = .returned s' ∧ w'.ownsRow w.heap.size 5 1 s' (enc 9 n).length (cellsB (enc 9 n)) ∧ Below w.heap.size w w' := by
  obtain ⟨i0, hi, hz0, hz1, hz2⟩ := info_parts Tryz.info5
  go_enter Tryz.func86, Tryz.ntmps86
  go_wp2
  go_loopw [0, 3] (fun nv ov wr => ∃ (f m : Nat) (pre : List UInt8), nv = .int .u64 (m : Int) ∧ m < 128 ^ (f + 1) ∧ m < 18446744073709551616 ∧ pre.length + f = 9 ∧ Hid (pre ++ enc f m = enc 9 n) ∧ Hid (wr.ownsRow w.heap.size 5 1 ov pre.length (cellsB pre) ∧ Below w.heap.size w wr)) (fun nv _ _ => (intOf nv).toNat)
  case atStart => exact ⟨9, n, [], rfl, by omega, hn, rfl, by simp [Hid], World.ownsRow_nil _ _ _ _, Below.refl _ _⟩
  case round =>
    obtain ⟨f, m, pre, rfl, hm, hm64, hpf, he, hst⟩ := hrel
    obtain ⟨ao, c, eo⟩ := owns_form hst.out.1
    subst eo
    have hown := hst.out.1
    have hsz := hst.out.2.size
    by_cases hlt : 128 ≤ m
    · obtain ⟨f', hf, hm', hpf', he'⟩ := rel_step hm hlt hpf he.out
      have He' := hid he'
      have Hm' := hid hm'
      have Hp' := hid hpf'
      clear he' hm' hf hpf' he hm
      go_wp2_with (at_builtin; refine wpList_append_own_at _ rfl (.tmp 6) (.tmp 11) 40 rfl w.heap.size 5 i0 (.int .u8 0) 1 1 Tryz.underlying40 hi hz0 hz1 hz2 rfl (by decide) _ _ _ rfl (hown.alloc _) ⟨wr.heap.size, 0, none⟩ 1 1 [.int .u8 ((m : Int) % 128 + 128)] rfl rfl (cell_one_new _ _ _) (fun u hu => by simp at hu; subst hu; rfl) (by unfold maxLen; omega) (by omega) (by simp; omega) ?_)
      intro v' w1 hown1 hgr hnil hat
      have B1 := hid (made_grow hst.out.2 hown hgr)
      rw [xgroup_cell, ← cellsB_append] at hown1
      have H1 := hid hown1
      obtain ⟨ao', c', eo⟩ := owns_form hown1
      subst eo
      clear hown1 hgr hnil hat hown
      go_wp2
      go_roundw
      case rel => exact ⟨f', m / 128, _, by go_num, Hm'.out, by omega, Hp'.out, He', by rw [List.length_append]; exact H1.out, B1.out⟩
      case measure => simp [intOf]; omega
    · have h128 : m < 128 := by omega
      go_wp2_with (at_builtin; refine wpList_append_own_at _ rfl (.tmp 15) (.tmp 18) 40 rfl w.heap.size 5 i0 (.int .u8 0) 1 1 Tryz.underlying40 hi hz0 hz1 hz2 rfl (by decide) _ _ _ rfl (hown.alloc _) ⟨wr.heap.size, 0, none⟩ 1 1 [.int .u8 (m : Int)] rfl rfl (cell_one_new _ _ _) (fun u hu => by simp at hu; subst hu; rfl) (by unfold maxLen; omega) (by omega) (by simp; omega) ?_)
      intro v' w1 hown1 hgr hnil hat
      have B1 := hid (made_grow hst.out.2 hown hgr)
      rw [xlow_cell m h128, ← cellsB_append] at hown1
      have H1 := hid hown1
      obtain ⟨ao', c', eo⟩ := owns_form hown1
      subst eo
      clear hown1 hgr hnil hat hown
      go_wp2
      go_ret
      refine ⟨_, rfl, ?_, B1.out⟩
      rw [← he.out, enc_small f m h128, List.length_append]
      exact H1.out

theorem Xst.reads_apart {w w1 : World} {b : Nat} {v : Value} {st : Option (List UInt8)} (h : Xst w b v st) {s : Value} {n : Nat} {xs : List Value} (ho : w1.ownsRow w.heap.size 5 1 s n xs) : ∀ k, s.ownBlock = some k → k ≠ b ∧ v.ownBlock ≠ some k := by
  intro k hk
  have h1 := (World.ownsRow.lt ho k hk).1
  have h2 := h.lt
  refine ⟨by omega, fun e => ?_⟩
  have := (h.own_lt k e).2
  omega

set_option maxHeartbeats 800000 in
set_option maxRecDepth 1000000 in
theorem xnum_any {w : World} {b : Nat} {v : Value} {st : Option (List UInt8)} (h : Xst w b v st) (n : Int) (hn : n < 9223372036854775808) (hlen : lenS st + 10 ≤ 140737488355328) :
    Calls Tryz.prog 45 #[.pointer (some ⟨b, 0, none⟩), .int .i64 n] w fun e w' => e = .returned (.tuple #[]) ∧ ∃ v', Xst w' b v' (numS st n) ∧ WStep b w v w' v' := by
  have HH := hid h
  by_cases h0 : n < 0
  · obtain ⟨bs, bad, hx⟩ := h.parts
    have c1 : w.cell? ⟨b, 1, none⟩ = some (.bool bad) := by rw [cell_at hx.box]; rfl
    have f1 := free_at hx.box 1
    have R : Hid (Xst (w.setCell ⟨b, 1, none⟩ (.bool true)) b v none ∧ WStep b w v (w.setCell ⟨b, 1, none⟩ (.bool true)) v) := by
      refine ⟨⟨bs, ?_, ownsRow_setCell_below hx.row (by simp) _⟩, ⟨rfl, rfl, rfl, by simp [World.setCell], ?_, fun k hk => Or.inl hk⟩⟩
      · rw [heap_setCell_same hx.box]; rfl
      · intro k hk hkb hkv
        rw [Below.heap_setCell _ _ _ _ (by simpa using hkb)]
    clear h hx
    go_enter Tryz.func45, Tryz.ntmps45
    go_wp2
    refine bodyPost_ret (results_none rfl _ _ _) rfl ?_
    refine ⟨rfl, v, ?_, R.out.2⟩
    unfold numS
    rw [if_pos h0]
    exact R.out.1
  · obtain ⟨m, rfl⟩ := Int.eq_ofNat_of_zero_le (Int.not_lt.1 h0)
    clear h
    go_enter Tryz.func45, Tryz.ntmps45
    go_wp2_with fail
    refine (xgroups w m (by omega)).mono ?_
    rintro e w1 ⟨s', rfl, h1, h2⟩
    have H1 := hid h1
    have H2 := hid h2
    obtain ⟨ao, c, eo⟩ := owns_form h1
    subst eo
    clear h1 h2
    go_wp2_with fail
    refine (xput_any (HH.out.below H2.out) (Reads.of_owns H1.out) (by have := enc_len 9 m; omega)).mono ?_
    rintro e w2 ⟨rfl, v2, h3, h4⟩
    have H3 := hid h3
    have H4 := hid h4
    clear h3 h4
    go_wp2
    go_end0
    refine ⟨rfl, v2, ?_, (WStep.of_below H2.out).trans H4.out⟩
    unfold numS
    rw [if_neg (by omega)]
    exact H3.out

theorem xfold_neg (n : Int) (h0 : n < 0) : (-(n + 1)) * 2 + 1 = (foldN n : Int) := by
  unfold foldN; rw [if_pos h0]; omega

set_option maxHeartbeats 800000 in
set_option maxRecDepth 1000000 in
theorem xtext_any {w : World} {b : Nat} {v : Value} {st : Option (List UInt8)} (h : Xst w b v st) (s : ByteArray) (hlen : lenS st + s.size + 10 ≤ 140737488355328) :
    Calls Tryz.prog 88 #[.pointer (some ⟨b, 0, none⟩), .string s] w fun e w' => e = .returned (.tuple #[]) ∧ ∃ v', Xst w' b v' (addS st (enc 9 s.size ++ s.data.toList)) ∧ WStep b w v w' v' := by
  have HH := hid h
  clear h
  have hcv := fun w s => run_bytes_of_string (P := Tryz.prog) w 9 40 5 s Tryz.underlying9 Tryz.underlying40 Tryz.underlying5
  go_enter Tryz.func88, Tryz.ntmps88
  go_wp2_with fail
  refine (xnum_any HH.out (s.size : Int) (by omega) (by omega)).mono ?_
  rintro e w1 ⟨rfl, v1, h3, h4⟩
  have e1 : numS st (s.size : Int) = addS st (enc 9 s.size) := by unfold numS; rw [if_neg (by omega)]; simp
  rw [e1] at h3
  have H1 := hid h3
  have H2 := hid h4
  clear h3 h4 e1
  go_wp2_with fail
  have hb : Below w1.heap.size w1 (w1.alloc (.cells (bytesRow s (grownCap w1 s.size 0 5)) 5 ((bytesRow s (grownCap w1 s.size 0 5)).size, (bytesRow s (grownCap w1 s.size 0 5)).size + 1))).drew := ((Below.refl _ _).alloc (Nat.le_refl _) _).drew
  refine (xput_any (H1.out.below hb) (Reads.ofString w1 s _ _ (grownCap_ge w1 s.size 0 5)) ?_).mono ?_
  · have : s.data.toList.length = s.size := rfl
    have := lenS_addS st (enc 9 s.size)
    have := enc_len 9 s.size
    omega
  rintro e w2 ⟨rfl, v2, h3, h4⟩
  rw [addS_addS] at h3
  have H3 := hid h3
  have H4 := hid (H2.out.trans ((WStep.of_below hb).trans h4))
  clear h3 h4 hb
  go_wp2
  go_end0
  exact ⟨rfl, v2, H3.out, H4.out⟩

set_option maxHeartbeats 800000 in
set_option maxRecDepth 1000000 in
theorem xdone_some {w : World} {b : Nat} {bs : List UInt8} (g o c : Nat) (h : XWr w b (.slice (some ⟨g, o, none⟩) bs.length c) bs false) (hlen : bs.length ≤ 140737488355328) :
    Calls Tryz.prog 61 #[.pointer (some ⟨b, 0, none⟩)] w fun e w' => ∃ s', e = .returned (.tuple #[s', .int .i64 0]) ∧ w'.ownsRow w.heap.size 5 1 s' bs.length (cellsB bs) ∧ Below w.heap.size w w' := by
  obtain ⟨i0, hi, hz0, hz1, hz2⟩ := info_parts Tryz.info5
  have c0 : w.cell? ⟨b, 0, none⟩ = some (.slice (some ⟨g, o, none⟩) bs.length c) := by rw [cell_at h.box]; rfl
  have c1 : w.cell? ⟨b, 1, none⟩ = some (.bool false) := by rw [cell_at h.box]; rfl
  have hblt := h.lt
  have hr := Reads.of_owns h.row
  have hnews : ∀ j u, (cellsB bs)[j]? = some u → (w.alloc (.cells #[] 5)).cell? ((⟨g, o, none⟩ : Addr).add j) = some u := by
    intro j u hu
    obtain ⟨ao, c', e, _, ⟨_, e2, _⟩ | ⟨g', o', rfl, hg, hc⟩⟩ := hr
    · subst e2; simp [cellsB] at hu
    · simp only [Value.slice.injEq, Option.some.injEq, Addr.mk.injEq] at e
      obtain ⟨⟨rfl, rfl, _⟩, _, _⟩ := e
      rw [Addr.add_lit, World.cell?_alloc_past _ _ _ hg]
      exact hc j u hu
  clear h hr
  have h0 : (w.alloc (.cells #[] 5)).ownsRow w.heap.size 5 1 (.slice (some ⟨w.heap.size, 0, none⟩) 0 0) 0 [] := World.ownsRow_made w #[] 0 (Nat.le_refl _) (by unfold maxLen; omega) rfl
  go_enter Tryz.func61, Tryz.ntmps61
  go_wp2_with (at_builtin; refine wpList_append_own_at _ rfl (.tmp 8) (.tmp 12) 40 rfl w.heap.size 5 i0 (.int .u8 0) 1 1 Tryz.underlying40 hi hz0 hz1 hz2 rfl (by decide) _ _ _ rfl h0 ⟨g, o, none⟩ bs.length c (cellsB bs) rfl (by rw [cellsB_length]; omega) hnews (cellsB_one _) (by unfold maxLen; omega) (by omega) (by simp) ?_)
  intro v' w1 hown hgr hnil hat
  have R : Hid (w1.ownsRow w.heap.size 5 1 v' bs.length (cellsB bs) ∧ Below w.heap.size w w1) := by
    refine ⟨by simpa using hown, ((Below.refl _ _).alloc (Nat.le_refl _) _).grown hgr (by simp) (fun k hk => ?_)⟩
    simp [Value.ownBlock] at hk
    omega
  clear hown hgr hnil hat h0
  obtain ⟨ao', cap', eo⟩ := owns_form R.out.1
  subst eo
  go_wp2
  go_ret2
  exact ⟨_, rfl, R.out.1, R.out.2⟩

set_option maxHeartbeats 800000 in
set_option maxRecDepth 1000000 in
theorem xdone_none {w : World} {b : Nat} (h : XWr w b (.slice none 0 0) [] false) :
    Calls Tryz.prog 61 #[.pointer (some ⟨b, 0, none⟩)] w fun e w' => ∃ s', e = .returned (.tuple #[s', .int .i64 0]) ∧ w'.ownsRow w.heap.size 5 1 s' 0 [] ∧ Below w.heap.size w w' := by
  obtain ⟨i0, hi, hz0, hz1, hz2⟩ := info_parts Tryz.info5
  have c0 : w.cell? ⟨b, 0, none⟩ = some (.slice none 0 0) := by rw [cell_at h.box]; rfl
  have c1 : w.cell? ⟨b, 1, none⟩ = some (.bool false) := by rw [cell_at h.box]; rfl
  have hblt := h.lt
  clear h
  have h0 : (w.alloc (.cells #[] 5)).ownsRow w.heap.size 5 1 (.slice (some ⟨w.heap.size, 0, none⟩) 0 0) 0 [] := World.ownsRow_made w #[] 0 (Nat.le_refl _) (by unfold maxLen; omega) rfl
  have R := hid (And.intro h0 ((Below.refl w.heap.size w).alloc (Nat.le_refl _) (.cells #[] 5)))
  go_enter Tryz.func61, Tryz.ntmps61
  go_wp2_with (at_builtin; refine wpList_append_own_none rfl (.tmp 8) (.tmp 12) 40 rfl w.heap.size 5 i0 1 Tryz.underlying40 hi _ _ _ rfl h0 rfl ?_)
  go_ret2
  exact ⟨_, rfl, R.out.1, R.out.2⟩

theorem xdone_whole {w : World} {b : Nat} {v : Value} {bs : List UInt8} (h : Xst w b v (some bs)) (hlen : bs.length ≤ 140737488355328) :
    Calls Tryz.prog 61 #[.pointer (some ⟨b, 0, none⟩)] w fun e w' => ∃ s', e = .returned (.tuple #[s', .int .i64 0]) ∧ w'.ownsRow w.heap.size 5 1 s' bs.length (cellsB bs) ∧ Below w.heap.size w w' := by
  have hx : XWr w b v bs false := h
  rcases hx.row.2 with ⟨rfl, e⟩ | ⟨g, cap, cur, rfl, _⟩
  · have e1 : bs = [] := List.eq_nil_of_length_eq_zero e
    subst e1
    exact xdone_none hx
  · exact xdone_some g 0 cap hx hlen

set_option maxHeartbeats 800000 in
set_option maxRecDepth 1000000 in
theorem xdone_broken {w : World} {b : Nat} {v : Value} (h : Xst w b v none) :
    Calls Tryz.prog 61 #[.pointer (some ⟨b, 0, none⟩)] w fun e w' => e = .returned (.tuple #[.slice none 0 0, .int .i64 1]) ∧ w' = w := by
  obtain ⟨bs, hx⟩ := h
  have c1 : w.cell? ⟨b, 1, none⟩ = some (.bool true) := by rw [cell_at hx.box]; rfl
  clear hx
  go_enter Tryz.func61, Tryz.ntmps61
  go_wp2
  go_ret2
  exact ⟨rfl, rfl⟩

set_option maxHeartbeats 800000 in
set_option maxRecDepth 1000000 in
theorem xnew_any (w : World) : Calls Tryz.prog 44 #[] w fun e w' => e = .returned (.pointer (some ⟨w.heap.size, 0, none⟩)) ∧ Below w.heap.size w w' ∧ Xst w' w.heap.size (.slice none 0 0) (some []) := by
  have R : Hid (Below w.heap.size w (w.alloc (.cells #[.slice none 0 0, .bool false] 106)) ∧ Xst (w.alloc (.cells #[.slice none 0 0, .bool false] 106)) w.heap.size (.slice none 0 0) (some [])) :=
    ⟨(Below.refl _ _).alloc (Nat.le_refl _) _, ⟨heap_alloc_new _ _, World.ownsRow_nil _ _ _ _⟩⟩
  go_enter Tryz.func44, Tryz.ntmps44
  go_wp2
  go_ret
  exact ⟨rfl, R.out⟩

end Go.Proofs.YthoppemjfdnibaaGreatDoor

import Derived.Test.YtdndfbgjaadbmaaLaw
namespace Go.Proofs.Ytdndfbgjaadbmaa
open Go.RowKit
set_option linter.unusedVariables false

theorem Try.info3 : (Try.prog.info? 3).map (fun i => (i.zero, i.size, i.bytes)) = some (some (.int .i64 0), 1, 8) := by kernel_rfl

theorem Reads.ofString2 (w : World) (s : ByteArray) (cap : Nat) (fr : Nat × Nat) (H : Nat) (hH : w.heap.size = H) (hc : s.size ≤ cap) : Reads (w.alloc (.cells (bytesRow s cap) 5 fr)).drew (.slice (some ⟨H, 0, none⟩) s.size cap) s.data.toList := by
  subst hH
  exact Reads.ofString w s cap fr hc

/-- The loop of laid: a items are written, of k it is known where they end. -/
structure LaidRel (w : World) (js : List It) (wr : World) (ev : Value) (a k : Nat) (v' : Value) : Prop where
  wst : Wst wr w.heap.size v' (some (encAll (js.take a)))
  ends : wr.ownsRow (w.heap.size + 1) 3 1 ev k ((endsN js k).map (Value.int .i64))
  apart : ∀ g, ev.ownBlock = some g → v'.ownBlock ≠ some g
  own : ∀ g, v'.ownBlock = some g → w.heap.size ≤ g
  below : Below w.heap.size w wr

theorem owns_below {w w' : World} {base : Nat} {e : TypeId} {v : Value} {n : Nat} {xs : List Value} (h : w.ownsRow base e 1 v n xs) (hb : ∀ g, v.ownBlock = some g → w'.heap[g]? = w.heap[g]?) : w'.ownsRow base e 1 v n xs := by
  refine ⟨h.1, ?_⟩
  rcases h.2 with hn | ⟨g, cap, cur, rfl, hg, hgg, rest⟩
  · exact Or.inl hn
  · exact Or.inr ⟨g, cap, cur, rfl, hg, by rw [hb g rfl]; exact hgg, rest⟩

theorem owns_base {w : World} {base base' : Nat} {e : TypeId} {v : Value} {n : Nat} {xs : List Value} (h : w.ownsRow base e 1 v n xs) (hb : base' ≤ base) : w.ownsRow base' e 1 v n xs := by
  refine ⟨h.1, ?_⟩
  rcases h.2 with hn | ⟨g, cap, cur, rfl, hg, rest⟩
  · exact Or.inl hn
  · exact Or.inr ⟨g, cap, cur, rfl, by omega, rest⟩

theorem LaidRel.later {w wr w2 : World} {js : List It} {ev v' : Value} {a k : Nat} (h : LaidRel w js wr ev a k v') (hb : Below wr.heap.size wr w2) : LaidRel w js w2 ev a k v' :=
  ⟨h.wst.below hb, owns_below h.ends (fun g hg => hb.block g (World.ownsRow.lt h.ends g hg).2), h.apart, h.own, h.below.trans (hb.mono h.below.size)⟩

theorem LaidRel.wrote {w wr w2 : World} {js : List It} {ev v' v2 : Value} {k : Nat} {x : It} (h : LaidRel w js wr ev k k v') (hx : js[k]? = some x) (hw : Wst w2 w.heap.size v2 (addS (some (encAll (js.take k))) (encI x))) (hs : WStep w.heap.size wr v' w2 v2) : LaidRel w js w2 ev (k + 1) k v2 := by
  refine ⟨?_, owns_below h.ends (fun g hg => ?_), fun g hg e => ?_, own_of_step h.below.size hs h.own, below_of_step h.below hs (Nat.le_refl _) h.own⟩
  · rw [encAll_succ js k x hx]; exact hw
  · have := World.ownsRow.lt h.ends g hg
    exact hs.block g this.2 (by omega) (fun e => h.apart g hg e.symm)
  · rcases hs.own g e with e | e
    · exact h.apart g hg e
    · have := World.ownsRow.lt h.ends g hg; omega

theorem LaidRel.ended {w wr w1 : World} {js : List It} {ev ev' v' : Value} {k : Nat} (h : LaidRel w js wr ev (k + 1) k v') (hown : w1.ownsRow (w.heap.size + 1) 3 1 ev' (k + 1) ((endsN js k).map (Value.int .i64) ++ [.int .i64 ((encAll (js.take (k + 1))).length : Int)]))
    (hg : wr.grownBy w1 ev.ownBlock) (hat : ev'.ownBlock = ev.ownBlock ∨ ev'.ownBlock = some wr.heap.size) : LaidRel w js w1 ev' (k + 1) (k + 1) v' := by
  refine ⟨h.wst.kept (hg.block _ h.wst.lt (fun e => ?_)) (fun g hgv => hg.block g (h.wst.own_lt g hgv).2 (fun e => h.apart g e.symm hgv)), ?_, fun g hgv e => ?_, h.own, h.below.grown hg h.below.size (fun g e => ?_)⟩
  · have := (World.ownsRow.lt h.ends _ e.symm).1; omega
  · rw [endsN_succ, List.map_append]; exact hown
  · rcases hat with e' | e'
    · rw [e'] at hgv; exact h.apart g hgv e
    · rw [e'] at hgv; simp at hgv; have := (h.wst.own_lt g e).2; omega
  · have := (World.ownsRow.lt h.ends g e).1; omega

set_option maxHeartbeats 6400000 in
set_option maxRecDepth 1000000 in
theorem laid_any {w : World} {s : Value} {its : List It} (h : ItemsAt w s its) (hok : ∀ x ∈ its, x.Ok) (hsz : sizeI its ≤ 1099511627776) :
    Calls Try.prog 28 #[s] w fun e w' => ∃ bv ev, e = .returned (.tuple #[bv, ev, .bool true]) ∧ w'.ownsRow w.heap.size 5 1 bv (encAll (its.map rightI)).length (cellsB (encAll (its.map rightI))) ∧ w'.ownsRow w.heap.size 3 1 ev its.length ((endsN (its.map rightI) its.length).map (Value.int .i64)) ∧ Below w.heap.size w w' := by
  obtain ⟨i0, hi, hz0, hz1, hz2⟩ := info_parts Try.info3
  have hcv := fun w s => run_bytes_of_string (P := Try.prog) w 9 37 5 s Try.underlying9 Try.underlying37 Try.underlying5
  have hge := sizeI_ge its
  obtain ⟨js, hjs⟩ : ∃ js, js = its.map rightI := ⟨_, rfl⟩
  rw [← hjs]
  have HJ := hid hjs
  clear hjs
  have HH := hid h
  obtain ⟨ao, c, rfl, hcase⟩ := h
  have HC := hid hcase
  have HOK := hid hok
  clear hcase hok
  go_enter Try.func28, Try.ntmps28
  go_wp2_with fail
  refine (NewWriter_any w).mono ?_
  rintro e w1 ⟨rfl, h1, h2⟩
  have R0 : Hid (LaidRel w js w1 (.slice none 0 0) 0 0 (.slice none 0 0)) := ⟨h1, World.ownsRow_nil _ _ _ _, fun g hg => by simp [Value.ownBlock] at hg, fun g hg => by simp [Value.ownBlock] at hg, h2⟩
  clear h1 h2
  go_wp2
  go_loopw [6, 7] (fun ev iv wr => ∃ (k : Nat) (v' : Value), k ≤ its.length ∧ iv = .int .i64 (k : Int) ∧ Hid (LaidRel w js wr ev k k v')) (fun _ iv _ => its.length - (intOf iv).toNat)
  case atStart => exact ⟨0, _, by omega, rfl, R0⟩
  case round =>
    obtain ⟨k, v', hk, rfl, hrel⟩ := hrel
    by_cases hlt : k < its.length
    · obtain ⟨x, hx⟩ : ∃ x, its[k]? = some x := ⟨_, List.getElem?_eq_getElem hlt⟩
      obtain ⟨g, o, rfl, hg, hcells⟩ : ∃ g o, ao = some ⟨g, o, none⟩ ∧ g < w.heap.size ∧ (wr.cell? ⟨g, o + k * 4, none⟩ = some (.int .i64 x.kind) ∧ wr.cell? ⟨g, o + k * 4 + 1, none⟩ = some (.int .i64 x.n) ∧ wr.cell? ⟨g, o + k * 4 + 2, none⟩ = some (.bool x.v) ∧ wr.cell? ⟨g, o + k * 4 + 3, none⟩ = some (.string x.s)) := by
        rcases HC.out with e | ⟨g, o, e, hg, hcell⟩
        · rw [e] at hlt; simp at hlt
        · refine ⟨g, o, e, hg, ?_⟩
          have hb := hrel.out.below
          rw [hb.cell (p := ⟨g, o + k * 4, none⟩) hg, hb.cell (p := ⟨g, o + k * 4 + 1, none⟩) hg, hb.cell (p := ⟨g, o + k * 4 + 2, none⟩) hg, hb.cell (p := ⟨g, o + k * 4 + 3, none⟩) hg]
          exact hcell k x hx
      obtain ⟨x0, x1, x2, x3⟩ := hcells
      have hok := HOK.out
      have hxo := hok x (List.mem_of_getElem? hx)
      have HX : Hid (js[k]? = some (rightI x)) := by rw [HJ.out]; simp [hx, Hid]
      have hro := rightI_ok x hxo
      have HXO := hid hxo
      have hbl : (encAll (js.take k)).length ≤ 1099511627776 := Nat.le_trans (encAll_len _) (Nat.le_trans (sizeI_take _ _) (by rw [HJ.out, sizeI_right _ hok]; exact hsz))
      have hss : x.s.size ≤ 1099511627776 := Nat.le_trans (sizeI_mem its x (List.mem_of_getElem? hx)) hsz
      have hbl1 : (encAll (js.take (k + 1))).length ≤ 1099511627776 := Nat.le_trans (encAll_len _) (Nat.le_trans (sizeI_take _ _) (by rw [HJ.out, sizeI_right _ hok]; exact hsz))
      clear hx hxo hok
      go_wp2_with fail
      refine (right_any x HXO.out wr).mono ?_
      rintro e w2 ⟨rfl, hb2⟩
      have R1 := hid (hrel.out.later hb2)
      clear hb2 x0 x1 x2 x3 hrel
      generalize rightI x = y at *
      obtain ⟨kk, n, bb, st⟩ := y
      obtain ⟨⟨_, hn1, hn2⟩, ⟨hk1, hk5⟩, hkn, hs⟩ := hro
      simp only at hn1 hn2 hk1 hk5 hkn hs ⊢
      subst hs
      have R2 := hid (R1.out.later ((Below.refl _ _).alloc (Nat.le_refl _) (.cells #[.int .i64 kk, .int .i64 n, .bool bb, .string x.s] 35)))
      rcases (show kk = 1 ∨ kk = 2 ∨ kk = 3 ∨ kk = 4 ∨ kk = 5 by omega) with rfl | rfl | rfl | rfl | rfl
      · have h0 := hkn rfl
        clear hkn hk1 hk5 R1
        go_wp2_with fail
        refine (num_any R2.out.wst n hn2 (by simp only [lenS]; omega)).mono ?_
        rintro e w3 ⟨rfl, v3, h1, h2⟩
        have R3 := hid (R2.out.wrote HX.out (by unfold encI; simpa [numS, Int.not_lt.2 h0] using h1) h2)
        clear h1 h2 R2 hn1 hn2 h0
        go_wp2_with fail
        refine (done_whole R3.out.wst (by omega)).mono ?_
        rintro e w4 ⟨s4, rfl, h1, h2⟩
        obtain ⟨ao4, c4, hf⟩ := owns_form h1
        subst hf
        have R4 := hid (R3.out.later h2)
        have hends := R4.out.ends
        have hsz4 := R4.out.below.size
        have hlt4 := R4.out.wst.lt
        clear h1 h2 R3
        go_wp2_with (at_builtin; refine wpList_append_own_at _ rfl (.tmp 67) (.tmp 70) 57 rfl (w.heap.size + 1) 3 i0 (.int .i64 0) 1 8 Try.underlying57 hi hz0 hz1 hz2 rfl (by decide) _ _ _ rfl (hends.alloc _) ⟨w4.heap.size, 0, none⟩ 1 1 [.int .i64 ((encAll (js.take (k + 1))).length : Int)] rfl rfl (cell_one_new _ _ _) (fun u hu => by simp at hu; subst hu; rfl) (by unfold maxLen; omega) (by omega) (by simp; omega) ?_)
        intro ev' w5 hown hgr hnil hat
        have R5 := hid ((R4.out.later ((Below.refl _ _).alloc (Nat.le_refl _) (.cells #[.int .i64 ((encAll (js.take (k + 1))).length : Int)] 3))).ended hown hgr (by simpa using hat))
        clear hown hgr hnil hat hends R4
        go_wp2
        go_roundw
        case rel => exact ⟨k + 1, v3, by omega, by go_num, R5⟩
        case measure => simp [intOf]; omega
      · clear hkn hk1 hk5 R1
        go_wp2_with fail
        refine (signed_any R2.out.wst n hn1 hn2 (by simp only [lenS]; omega)).mono ?_
        rintro e w3 ⟨rfl, v3, h1, h2⟩
        have R3 := hid (R2.out.wrote HX.out (by unfold encI; simpa using h1) h2)
        clear h1 h2 R2 hn1 hn2
        go_wp2_with fail
        refine (done_whole R3.out.wst (by omega)).mono ?_
        rintro e w4 ⟨s4, rfl, h1, h2⟩
        obtain ⟨ao4, c4, hf⟩ := owns_form h1
        subst hf
        have R4 := hid (R3.out.later h2)
        have hends := R4.out.ends
        have hsz4 := R4.out.below.size
        have hlt4 := R4.out.wst.lt
        clear h1 h2 R3
        go_wp2_with (at_builtin; refine wpList_append_own_at _ rfl (.tmp 67) (.tmp 70) 57 rfl (w.heap.size + 1) 3 i0 (.int .i64 0) 1 8 Try.underlying57 hi hz0 hz1 hz2 rfl (by decide) _ _ _ rfl (hends.alloc _) ⟨w4.heap.size, 0, none⟩ 1 1 [.int .i64 ((encAll (js.take (k + 1))).length : Int)] rfl rfl (cell_one_new _ _ _) (fun u hu => by simp at hu; subst hu; rfl) (by unfold maxLen; omega) (by omega) (by simp; omega) ?_)
        intro ev' w5 hown hgr hnil hat
        have R5 := hid ((R4.out.later ((Below.refl _ _).alloc (Nat.le_refl _) (.cells #[.int .i64 ((encAll (js.take (k + 1))).length : Int)] 3))).ended hown hgr (by simpa using hat))
        clear hown hgr hnil hat hends R4
        go_wp2
        go_roundw
        case rel => exact ⟨k + 1, v3, by omega, by go_num, R5⟩
        case measure => simp [intOf]; omega
      · clear hkn hk1 hk5 R1 hn1 hn2
        go_wp2_with fail
        refine (bool_any R2.out.wst bb (by simp only [lenS]; omega)).mono ?_
        rintro e w3 ⟨rfl, v3, h1, h2⟩
        have R3 := hid (R2.out.wrote HX.out (by unfold encI; simpa using h1) h2)
        clear h1 h2 R2
        go_wp2_with fail
        refine (done_whole R3.out.wst (by omega)).mono ?_
        rintro e w4 ⟨s4, rfl, h1, h2⟩
        obtain ⟨ao4, c4, hf⟩ := owns_form h1
        subst hf
        have R4 := hid (R3.out.later h2)
        have hends := R4.out.ends
        have hsz4 := R4.out.below.size
        have hlt4 := R4.out.wst.lt
        clear h1 h2 R3
        go_wp2_with (at_builtin; refine wpList_append_own_at _ rfl (.tmp 67) (.tmp 70) 57 rfl (w.heap.size + 1) 3 i0 (.int .i64 0) 1 8 Try.underlying57 hi hz0 hz1 hz2 rfl (by decide) _ _ _ rfl (hends.alloc _) ⟨w4.heap.size, 0, none⟩ 1 1 [.int .i64 ((encAll (js.take (k + 1))).length : Int)] rfl rfl (cell_one_new _ _ _) (fun u hu => by simp at hu; subst hu; rfl) (by unfold maxLen; omega) (by omega) (by simp; omega) ?_)
        intro ev' w5 hown hgr hnil hat
        have R5 := hid ((R4.out.later ((Below.refl _ _).alloc (Nat.le_refl _) (.cells #[.int .i64 ((encAll (js.take (k + 1))).length : Int)] 3))).ended hown hgr (by simpa using hat))
        clear hown hgr hnil hat hends R4
        go_wp2
        go_roundw
        case rel => exact ⟨k + 1, v3, by omega, by go_num, R5⟩
        case measure => simp [intOf]; omega
      · clear hkn hk1 hk5 R1 hn1 hn2
        go_wp2_with fail
        refine (text_any R2.out.wst x.s (by simp only [lenS]; omega)).mono ?_
        rintro e w3 ⟨rfl, v3, h1, h2⟩
        have R3 := hid (R2.out.wrote HX.out (by unfold encI; simpa using h1) h2)
        clear h1 h2 R2
        go_wp2_with fail
        refine (done_whole R3.out.wst (by omega)).mono ?_
        rintro e w4 ⟨s4, rfl, h1, h2⟩
        obtain ⟨ao4, c4, hf⟩ := owns_form h1
        subst hf
        have R4 := hid (R3.out.later h2)
        have hends := R4.out.ends
        have hsz4 := R4.out.below.size
        have hlt4 := R4.out.wst.lt
        clear h1 h2 R3
        go_wp2_with (at_builtin; refine wpList_append_own_at _ rfl (.tmp 67) (.tmp 70) 57 rfl (w.heap.size + 1) 3 i0 (.int .i64 0) 1 8 Try.underlying57 hi hz0 hz1 hz2 rfl (by decide) _ _ _ rfl (hends.alloc _) ⟨w4.heap.size, 0, none⟩ 1 1 [.int .i64 ((encAll (js.take (k + 1))).length : Int)] rfl rfl (cell_one_new _ _ _) (fun u hu => by simp at hu; subst hu; rfl) (by unfold maxLen; omega) (by omega) (by simp; omega) ?_)
        intro ev' w5 hown hgr hnil hat
        have R5 := hid ((R4.out.later ((Below.refl _ _).alloc (Nat.le_refl _) (.cells #[.int .i64 ((encAll (js.take (k + 1))).length : Int)] 3))).ended hown hgr (by simpa using hat))
        clear hown hgr hnil hat hends R4
        go_wp2
        go_roundw
        case rel => exact ⟨k + 1, v3, by omega, by go_num, R5⟩
        case measure => simp [intOf]; omega
      · clear hkn hk1 hk5 R1 hn1 hn2
        go_wp2_with fail
        have hb := (((Below.refl (w2.alloc (.cells #[.int .i64 5, .int .i64 n, .bool bb, .string x.s] 35)).heap.size (w2.alloc (.cells #[.int .i64 5, .int .i64 n, .bool bb, .string x.s] 35))).alloc (Nat.le_refl _) (.cells (bytesRow x.s (grownCap (w2.alloc (.cells #[.int .i64 5, .int .i64 n, .bool bb, .string x.s] 35)) x.s.size 0 5)) 5 ((bytesRow x.s (grownCap (w2.alloc (.cells #[.int .i64 5, .int .i64 n, .bool bb, .string x.s] 35)) x.s.size 0 5)).size, (bytesRow x.s (grownCap (w2.alloc (.cells #[.int .i64 5, .int .i64 n, .bool bb, .string x.s] 35)) x.s.size 0 5)).size + 1))).drew)
        have R2b := hid (R2.out.later hb)
        have hsep : ∀ q, Value.ownBlock (.slice (some ⟨w2.heap.size + 1, 0, none⟩) x.s.size (grownCap (w2.alloc (.cells #[.int .i64 5, .int .i64 n, .bool bb, .string x.s] 35)) x.s.size 0 5)) = some q → q ≠ w.heap.size ∧ v'.ownBlock ≠ some q := by
          intro q hq
          simp [Value.ownBlock] at hq
          subst hq
          have hz := R2.out.wst.lt
          simp at hz
          refine ⟨by omega, fun e => ?_⟩
          have := (R2.out.wst.own_lt _ e).2
          simp at this
        refine (bytes_any R2b.out.wst (Reads.ofString2 (w2.alloc (.cells #[.int .i64 5, .int .i64 n, .bool bb, .string x.s] 35)) x.s _ _ (w2.heap.size + 1) (by simp) (grownCap_ge _ _ _ _)) hsep (by simp only [lenS]; have : x.s.data.toList.length = x.s.size := rfl; omega)).mono ?_
        rintro e w3 ⟨rfl, v3, h1, h2⟩
        have R3 := hid (R2b.out.wrote HX.out (by unfold encI; simpa using h1) h2)
        clear h1 h2 R2 R2b hb hsep
        go_wp2_with fail
        refine (done_whole R3.out.wst (by omega)).mono ?_
        rintro e w4 ⟨s4, rfl, h1, h2⟩
        obtain ⟨ao4, c4, hf⟩ := owns_form h1
        subst hf
        have R4 := hid (R3.out.later h2)
        have hends := R4.out.ends
        have hsz4 := R4.out.below.size
        have hlt4 := R4.out.wst.lt
        clear h1 h2 R3
        go_wp2_with (at_builtin; refine wpList_append_own_at _ rfl (.tmp 67) (.tmp 70) 57 rfl (w.heap.size + 1) 3 i0 (.int .i64 0) 1 8 Try.underlying57 hi hz0 hz1 hz2 rfl (by decide) _ _ _ rfl (hends.alloc _) ⟨w4.heap.size, 0, none⟩ 1 1 [.int .i64 ((encAll (js.take (k + 1))).length : Int)] rfl rfl (cell_one_new _ _ _) (fun u hu => by simp at hu; subst hu; rfl) (by unfold maxLen; omega) (by omega) (by simp; omega) ?_)
        intro ev' w5 hown hgr hnil hat
        have R5 := hid ((R4.out.later ((Below.refl _ _).alloc (Nat.le_refl _) (.cells #[.int .i64 ((encAll (js.take (k + 1))).length : Int)] 3))).ended hown hgr (by simpa using hat))
        clear hown hgr hnil hat hends R4
        go_wp2
        go_roundw
        case rel => exact ⟨k + 1, v3, by omega, by go_num, R5⟩
        case measure => simp [intOf]; omega
    · have hk' : k = its.length := by omega
      subst hk'
      have hjl : js.length = its.length := by rw [HJ.out]; simp
      have hbl : (encAll (js.take its.length)).length ≤ 1099511627776 := Nat.le_trans (encAll_len _) (Nat.le_trans (sizeI_take _ _) (by rw [HJ.out, sizeI_right _ HOK.out]; exact hsz))
      have R3 := hid hrel.out
      have HJL := hid hjl
      clear hjl hrel
      go_wp2_with fail
      refine (done_whole R3.out.wst (by omega)).mono ?_
      rintro e w4 ⟨s4, rfl, h1, h2⟩
      obtain ⟨ao4, c4, hf⟩ := owns_form h1
      subst hf
      have R4 := hid (R3.out.later h2)
      have H1 := hid h1
      clear h1 h2
      go_wp2
      go_ret3
      have et : js.take its.length = js := List.take_of_length_le (by rw [HJL.out]; omega)
      have h1 := H1.out
      have h4 := R4.out.ends
      rw [et] at h1
      rw [et]
      exact ⟨_, _, rfl, owns_base h1 R3.out.below.size, owns_base h4 (by omega), R4.out.below⟩

end Go.Proofs.Ytdndfbgjaadbmaa

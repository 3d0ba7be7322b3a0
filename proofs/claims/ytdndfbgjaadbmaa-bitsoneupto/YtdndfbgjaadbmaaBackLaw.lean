import Derived.Test.YtdndfbgjaadbmaaBack
namespace Go.Proofs.Ytdndfbgjaadbmaa
open Go.RowKit
set_option linter.unusedVariables false

/-- The loop of the law, behind k items. -/
structure BackRel (w wr : World) (js : List It) (b : Nat) (D : Option Nat) (ev rv : Value) (k : Nat) : Prop where
  rd : Rd wr b D rv (encAll (js.drop k)) (encAll (js.take k)).length 0
  ends : wr.ownsRow w.heap.size 3 1 ev js.length ((endsN js js.length).map (Value.int .i64))
  apart : ev.ownBlock ≠ some b
  below : Below w.heap.size w wr
  new : w.heap.size ≤ b

theorem BackRel.later {w wr w2 : World} {js : List It} {b : Nat} {D : Option Nat} {ev rv : Value} {k : Nat} (h : BackRel w wr js b D ev rv k) (hb : Below wr.heap.size wr w2) : BackRel w w2 js b D ev rv k :=
  ⟨h.rd.below hb, owns_below h.ends (fun g hg => hb.block g (World.ownsRow.lt h.ends g hg).2), h.apart, h.below.trans (hb.mono h.below.size), h.new⟩

theorem BackRel.read {w wr w2 : World} {js : List It} {b : Nat} {D : Option Nat} {ev rv rv' : Value} {k k' : Nat} (h : BackRel w wr js b D ev rv k) (ho : Only b wr w2) (hr : Rd w2 b D rv' (encAll (js.drop k')) (encAll (js.take k')).length 0) : BackRel w w2 js b D ev rv' k' :=
  ⟨hr, owns_below h.ends (fun g hg => ho.block g (World.ownsRow.lt h.ends g hg).2 (fun e => h.apart (by rw [hg, e]))), h.apart, below_of_only h.below ho h.new, h.new⟩

theorem encAll_drop (js : List It) (k : Nat) (x : It) (h : js[k]? = some x) : encAll (js.drop k) = encI x ++ encAll (js.drop (k + 1)) := by
  obtain ⟨hk, rfl⟩ := List.getElem?_eq_some_iff.1 h
  unfold encAll
  rw [List.drop_eq_getElem_cons hk, List.flatMap_cons]

theorem encAll_both (js : List It) (k : Nat) : (encAll (js.take k)).length + (encAll (js.drop k)).length = (encAll js).length := by
  rw [← List.length_append]
  unfold encAll
  rw [← List.flatMap_append, List.take_append_drop]

theorem BackRel.end_at {w wr : World} {js : List It} {b : Nat} {D : Option Nat} {ev rv : Value} {k j : Nat} (h : BackRel w wr js b D ev rv k) (hj : j < js.length) : ∃ g cap, ev = .slice (some ⟨g, 0, none⟩) js.length cap ∧ wr.cell? ⟨g, j, none⟩ = some (.int .i64 ((encAll (js.take (j + 1))).length : Int)) := by
  have hc := fun g => World.ownsRow.cells h.ends (g := g)
  rcases h.ends.2 with ⟨_, e⟩ | ⟨g, cap, _, e, _⟩
  · omega
  · refine ⟨g, cap, e, ?_⟩
    have := hc g (by rw [e]; rfl) j (.int .i64 ((encAll (js.take (j + 1))).length : Int)) (by simp [endsN, hj])
    simpa [Addr.add_lit] using this

set_option maxHeartbeats 6400000 in
set_option maxRecDepth 1000000 in
theorem bitsBack_walk {w : World} {s : Value} {its : List It} (h : ItemsAt w s its) (hok : ∀ x ∈ its, x.Ok) (hsz : sizeI its ≤ 1099511627776) :
    Calls Try.prog 5 #[s] w fun e w' => e = .returned (.bool true) ∧ Below w.heap.size w w' := by
  obtain ⟨js, hjs⟩ : ∃ js, js = its.map rightI := ⟨_, rfl⟩
  have hjl : js.length = its.length := by rw [hjs]; simp
  have hge := sizeI_ge its
  have HJ := hid hjs
  have HH := hid h
  have HOK := hid hok
  have HJL := hid hjl
  have hbl : (encAll js).length ≤ 1099511627776 := Nat.le_trans (encAll_len _) (by rw [hjs, sizeI_right _ hok]; exact hsz)
  obtain ⟨ao, c, rfl, hcase⟩ := h
  have HC := hid hcase
  clear hjs hjl hcase hok
  go_enter Try.func5, Try.ntmps5
  go_wp2_with fail
  refine (shown_any w).mono ?_
  rintro e w1 ⟨rfl, h1⟩
  have B1 := hid h1
  clear h1
  go_wp2_with fail
  refine (laid_any (HH.out.below B1.out) HOK.out hsz).mono ?_
  rintro e w2 ⟨bv, ev, rfl, h1, h2, h3⟩
  rw [← HJ.out] at h1 h2
  obtain ⟨abv, cbv, hf⟩ := owns_form h1
  subst hf
  have H1 := hid h1
  have H2 := hid h2
  have B2 := hid (B1.out.trans (h3.mono B1.out.size))
  clear h1 h2 h3
  go_wp2_with fail
  refine (NewReader_any (Reads.of_owns H1.out) (by omega)).mono ?_
  rintro e w3 ⟨b, D, rv, rfl, h1, h2, h3, -⟩
  have R0 : Hid (BackRel w w3 js b D ev rv 0) := by
    refine ⟨by simpa [encAll] using h1, owns_below (owns_base (by rw [HJL.out]; exact H2.out) B1.out.size) (fun g hg => h2.block g (World.ownsRow.lt H2.out g hg).2), fun e => ?_, B2.out.trans (h2.mono B2.out.size), Nat.le_trans B2.out.size h3⟩
    have := (World.ownsRow.lt H2.out _ e).2
    omega
  clear h1 h2 h3
  go_wp2
  go_loopw [8] (fun iv wr => ∃ (k : Nat) (rv' : Value), k ≤ its.length ∧ iv = .int .i64 (k : Int) ∧ Hid (BackRel w wr js b D ev rv' k)) (fun iv _ => its.length - (intOf iv).toNat)
  case atStart => exact ⟨0, _, by omega, rfl, R0⟩
  case round =>
    obtain ⟨k, rv', hk, rfl, hrel⟩ := hrel
    by_cases hlt : k < its.length
    · obtain ⟨x, hx⟩ : ∃ x, its[k]? = some x := ⟨_, List.getElem?_eq_getElem hlt⟩
      obtain ⟨g, o, rfl, hg, hcells⟩ : ∃ g o, ao = some ⟨g, o, none⟩ ∧ g < w.heap.size ∧ (wr.cell? ⟨g, o + k * 4, none⟩ = some (.int .i64 x.kind) ∧ wr.cell? ⟨g, o + k * 4 + 1, none⟩ = some (.int .i64 x.n) ∧ wr.cell? ⟨g, o + k * 4 + 2, none⟩ = some (.bool x.v) ∧ wr.cell? ⟨g, o + k * 4 + 3, none⟩ = some (.string x.s)) := by
        rcases HC.out with e | ⟨g, o, e, hg, hcell⟩
        · rw [e] at hlt; simp at hlt
        · refine ⟨g, o, e, hg, ?_⟩
          have hb := hrel.out.below
          rw [hb.cell (p := ⟨g, o + k * 4, none⟩) hg, hb.cell (p := ⟨g, o + k * 4 + 1, none⟩) hg, hb.cell (p := ⟨g, o + k * 4 + 2, none⟩) hg, hb.cell (p := ⟨g, o + k * 4 + 3, none⟩) hg]
          exact hcell k x hx
      obtain ⟨x0, x1, x2, x3⟩ := hcells
      have hok := HOK.out
      have hxo := hok x (List.mem_of_getElem? hx)
      have HX : Hid (js[k]? = some (rightI x)) := by rw [HJ.out]; simp [hx, Hid]
      have HRO := hid (rightI_ok x hxo)
      have HXO := hid hxo
      have hss : x.s.size ≤ 1099511627776 := Nat.le_trans (sizeI_mem its x (List.mem_of_getElem? hx)) hsz
      clear hx hxo hok
      go_wp2_with fail
      refine (right_any x HXO.out wr).mono ?_
      rintro e w4 ⟨rfl, hb2⟩
      have R1 := hid (hrel.out.later hb2)
      clear hb2 x0 x1 x2 x3 hrel
      go_wp2_with fail
      have hrd := R1.out.rd
      have hboth := encAll_both js k
      rw [encAll_drop js k _ HX.out] at hrd hboth
      refine (back_any (rightI x) HRO.out.1 HRO.out.2.1 HRO.out.2.2.1 (by rw [HRO.out.2.2.2]; omega) hrd (by omega)).mono ?_
      rintro e w5 ⟨rfl, ⟨rv5, h1⟩, h2⟩
      have R2 := hid (R1.out.read (k' := k + 1) h2 (by rw [encAll_succ js k _ HX.out, List.length_append]; exact h1))
      clear h1 h2 hrd hboth R1
      go_wp2_with fail
      refine (Err_any R2.out.rd).mono ?_
      rintro e w6 ⟨rfl, h1⟩
      have R3 := hid (R2.out.later h1)
      obtain ⟨ge, ce, hev, hec⟩ := R3.out.end_at (j := k) (by rw [HJL.out]; exact hlt)
      subst hev
      clear h1 R2
      have hkj : k < js.length := by rw [HJL.out]; exact hlt
      go_wp2
      go_roundw
      case rel => exact ⟨k + 1, rv5, by omega, by go_num, R3⟩
      case measure => simp [intOf]; omega
    · have hk' : k = its.length := by omega
      subst hk'
      have hrd := hrel.out.rd
      have ed : encAll (js.drop its.length) = [] := by rw [← HJL.out, List.drop_length]; rfl
      rw [ed] at hrd
      have HRD := hid hrd
      have BR := hid hrel.out
      clear hrd ed hrel
      go_wp2_with fail
      refine (Close_any HRD.out).mono ?_
      rw [if_pos rfl]
      rintro e w9 ⟨rfl, _, h2⟩
      have B9 := hid (below_of_only BR.out.below h2 BR.out.new)
      clear h2
      go_wp2
      go_ret
      exact ⟨rfl, B9.out⟩

end Go.Proofs.Ytdndfbgjaadbmaa

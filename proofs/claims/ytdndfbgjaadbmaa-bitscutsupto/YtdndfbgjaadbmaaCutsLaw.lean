import Derived.Test.YtdndfbgjaadbmaaBackLaw
import Derived.Test.YtdndfbgjaadbmaaGot
namespace Go.Proofs.Ytdndfbgjaadbmaa
open Go.RowKit
set_option linter.unusedVariables false

/-- An item that is cut is short. -/
theorem gotR_cut (y : It) (hy : y.Ok) (hk : 1 ≤ y.kind ∧ y.kind ≤ 5) (hkn : y.kind = 1 → 0 ≤ y.n) (hs : y.s.size ≤ 140737488355328) (m : Nat) (hm : m < (encI y).length) : (gotR y.kind ((encI y).take m)).2.2 = 10 := by
  obtain ⟨k, n, v, s⟩ := y
  obtain ⟨_, hn1, hn2⟩ := hy
  simp only at hk hkn hs hn1 hn2
  have es : s.data.toList.length = s.size := rfl
  rcases (show k = 1 ∨ k = 2 ∨ k = 3 ∨ k = 4 ∨ k = 5 by omega) with rfl | rfl | rfl | rfl | rfl
  · have h0 := hkn rfl
    have e : encI ⟨1, n, v, s⟩ = enc 9 n.toNat := rfl
    rw [e] at hm ⊢
    have := numR_cut n.toNat (by omega) m hm 9223372036854775807 13
    simp [gotR, this]
  · have e : encI ⟨2, n, v, s⟩ = enc 9 (foldN n) := rfl
    rw [e] at hm ⊢
    simp [gotR, signedR_cut n hn1 hn2 m hm]
  · have e : encI ⟨3, n, v, s⟩ = [if v then 1 else 0] := rfl
    rw [e] at hm ⊢
    simp at hm
    subst hm
    simp [gotR, truthR]
  · have e : encI ⟨4, n, v, s⟩ = enc 9 s.data.toList.length ++ s.data.toList := rfl
    rw [e] at hm ⊢
    have := (runR_cut s.data.toList (by omega) m hm 9223372036854775807 (by omega)).1
    simpa [gotR] using this
  · have e : encI ⟨5, n, v, s⟩ = enc 9 s.data.toList.length ++ s.data.toList := rfl
    rw [e] at hm ⊢
    have := (runR_cut s.data.toList (by omega) m hm 9223372036854775807 (by omega)).1
    simpa [gotR] using this

/-- The loop of the law, behind k items that are whole. -/
structure CutsRel (w wr : World) (js : List It) (b : Nat) (D : Option Nat) (ev rv : Value) (cut k : Nat) : Prop where
  rd : Rd wr b D rv ((encAll (js.drop k)).take (cut - (encAll (js.take k)).length)) (encAll (js.take k)).length 0
  le : (encAll (js.take k)).length ≤ cut
  ends : wr.ownsRow w.heap.size 3 1 ev js.length ((endsN js js.length).map (Value.int .i64))
  apart : ev.ownBlock ≠ some b
  below : Below w.heap.size w wr
  new : w.heap.size ≤ b

theorem CutsRel.later {w wr w2 : World} {js : List It} {b : Nat} {D : Option Nat} {ev rv : Value} {cut k : Nat} (h : CutsRel w wr js b D ev rv cut k) (hb : Below wr.heap.size wr w2) : CutsRel w w2 js b D ev rv cut k :=
  ⟨h.rd.below hb, h.le, owns_below h.ends (fun g hg => hb.block g (World.ownsRow.lt h.ends g hg).2), h.apart, h.below.trans (hb.mono h.below.size), h.new⟩

theorem CutsRel.read {w wr w2 : World} {js : List It} {b : Nat} {D : Option Nat} {ev rv rv' : Value} {cut k k' : Nat} (h : CutsRel w wr js b D ev rv cut k) (ho : Only b wr w2) (hle : (encAll (js.take k')).length ≤ cut) (hr : Rd w2 b D rv' ((encAll (js.drop k')).take (cut - (encAll (js.take k')).length)) (encAll (js.take k')).length 0) : CutsRel w w2 js b D ev rv' cut k' :=
  ⟨hr, hle, owns_below h.ends (fun g hg => ho.block g (World.ownsRow.lt h.ends g hg).2 (fun e => h.apart (by rw [hg, e]))), h.apart, below_of_only h.below ho h.new, h.new⟩

theorem CutsRel.end_at {w wr : World} {js : List It} {b : Nat} {D : Option Nat} {ev rv : Value} {cut k j : Nat} (h : CutsRel w wr js b D ev rv cut k) (hj : j < js.length) : ∃ g cap, ev = .slice (some ⟨g, 0, none⟩) js.length cap ∧ g < wr.heap.size ∧ wr.cell? ⟨g, j, none⟩ = some (.int .i64 ((encAll (js.take (j + 1))).length : Int)) := by
  have hc := fun g => World.ownsRow.cells h.ends (g := g)
  have hlt := fun g => World.ownsRow.lt h.ends g
  rcases h.ends.2 with ⟨_, e⟩ | ⟨g, cap, _, e, _⟩
  · omega
  · refine ⟨g, cap, e, (hlt g (by rw [e]; rfl)).2, ?_⟩
    have := hc g (by rw [e]; rfl) j (.int .i64 ((encAll (js.take (j + 1))).length : Int)) (by simp [endsN, hj])
    simpa [Addr.add_lit] using this

theorem Reads.front {w : World} {ao : Option Addr} {c : Nat} {l : List UInt8} (h : Reads w (.slice ao l.length c) l) (n : Nat) (hn : n ≤ l.length) : Reads w (.slice (if n = 0 then ao else ao.map (·.add 0)) n n) (l.take n) := by
  obtain ⟨ao', c', e, hc, hcase⟩ := h
  simp only [Value.slice.injEq] at e
  obtain ⟨rfl, _, rfl⟩ := e
  have hl : (l.take n).length = n := by simp; omega
  rcases hcase with ⟨rfl, rfl, rfl⟩ | ⟨g, o, rfl, hg, hcell⟩
  · have : n = 0 := by simpa using hn
    subst this
    exact ⟨none, 0, by simp, by simp, Or.inl ⟨rfl, by simp, rfl⟩⟩
  · refine ⟨some ⟨g, o, none⟩, n, by rw [hl]; simp [Addr.add_lit], by omega, Or.inr ⟨g, o, rfl, hg, fun j u hu => ?_⟩⟩
    have hj : j < n := by
      have := (List.getElem?_eq_some_iff.1 hu).1
      rw [cellsB_length, hl] at this
      exact this
    exact hcell j u (by rw [← hu]; simp [cellsB, hj])

theorem front_run (a : Option Addr) (L c m : Nat) (hm : m ≤ c) (w : World) : (Instr.slice 37 (.slice a L c) none (some (.int .i64 (m : Int))) (some (.int .i64 (m : Int)))).run Try.prog w = .ok (.slice (if m = 0 then a else a.map (·.add 0)) m m) w := by
  rw [run_slice_hm w 37 a L c (by kernel_rfl) .i64 .i64 (m : Int) (m : Int) (by omega) (by omega) (by omega)]
  have hs : (sizeOf (Try.prog.elem 37)).run Try.prog w = .ok 1 w := by kernel_rfl
  rw [hs]
  simp [sliced, Result.andThen]

theorem mod_neg (cut : Int) (L : Nat) (h : cut < 0) (hL : 0 < L) : -((cut + 1).tmod (L : Int)) = (((-(cut + 1)).toNat % L : Nat) : Int) := by
  obtain ⟨q, hq⟩ := Int.eq_ofNat_of_zero_le (show 0 ≤ -(cut + 1) by omega)
  rw [← Int.neg_tmod, hq]
  rfl

theorem mod_pos (cut : Int) (L : Nat) (h : ¬ cut < 0) (hL : 0 < L) : cut % (L : Int) = ((cut.toNat % L : Nat) : Int) := by
  obtain ⟨q, rfl⟩ := Int.eq_ofNat_of_zero_le (show 0 ≤ cut by omega)
  rfl

theorem numR_none : numR [] 9223372036854775807 13 = (0, 0, 10) := rfl
theorem aft_none (place : Nat) : aft [] place 10 0 10 = ([], place, 10) := rfl

/-- How the cut bytes go on. -/
theorem cut_whole (js : List It) (k cut : Nat) (x : It) (hx : js[k]? = some x) (h : (encAll (js.take (k + 1))).length ≤ cut) : (encAll (js.drop k)).take (cut - (encAll (js.take k)).length) = encI x ++ (encAll (js.drop (k + 1))).take (cut - (encAll (js.take (k + 1))).length) := by
  rw [encAll_drop js k x hx]
  rw [encAll_succ js k x hx, List.length_append] at h ⊢
  rw [List.take_append, List.take_of_length_le (by omega)]
  congr 2
  omega

theorem cut_short (js : List It) (k cut : Nat) (x : It) (hx : js[k]? = some x) (h : cut < (encAll (js.take (k + 1))).length) (hle : (encAll (js.take k)).length ≤ cut) : (encAll (js.drop k)).take (cut - (encAll (js.take k)).length) = (encI x).take (cut - (encAll (js.take k)).length) ∧ cut - (encAll (js.take k)).length < (encI x).length := by
  rw [encAll_succ js k x hx, List.length_append] at h
  rw [encAll_drop js k x hx]
  exact ⟨List.take_append_of_le_length (by omega), by omega⟩

set_option maxHeartbeats 6400000 in
set_option maxRecDepth 1000000 in
theorem bitsCuts_walk {w : World} {s : Value} {its : List It} (h : ItemsAt w s its) (hok : ∀ x ∈ its, x.Ok) (hsz : sizeI its ≤ 1099511627776) (cut : Int) (hc1 : -9223372036854775808 ≤ cut) (hc2 : cut < 9223372036854775808) :
    Calls Try.prog 7 #[s, .int .i64 cut] w fun e w' => e = .returned (.bool true) ∧ Below w.heap.size w w' := by
  obtain ⟨js, hjs⟩ : ∃ js, js = its.map rightI := ⟨_, rfl⟩
  have hjl : js.length = its.length := by rw [hjs]; simp
  have hge := sizeI_ge its
  have HJ := hid hjs
  have HH := hid h
  have HOK := hid hok
  have HJL := hid hjl
  have hbl : (encAll js).length ≤ 1099511627776 := Nat.le_trans (encAll_len _) (by rw [hjs, sizeI_right _ hok]; exact hsz)
  obtain ⟨ao, c, rfl, hcase⟩ := h
  have HC := hid hcase
  clear hjs hjl hcase hok
  go_enter Try.func7, Try.ntmps7
  go_wp2_with fail
  refine (shown_any w).mono ?_
  rintro e w1 ⟨rfl, h1⟩
  have B1 := hid h1
  clear h1
  go_wp2_with fail
  refine (laid_any (HH.out.below B1.out) HOK.out hsz).mono ?_
  rintro e w2 ⟨bv, ev, rfl, h1, h2, h3⟩
  rw [← HJ.out] at h1 h2
  obtain ⟨abv, cbv, hf⟩ := owns_form h1
  subst hf
  have H1 := hid h1
  have H2 := hid h2
  have B2 := hid (B1.out.trans (h3.mono B1.out.size))
  clear h1 h2 h3
  by_cases hL : (encAll js).length = 0
  · have hL' : (((encAll js).length : Int) == 0) = true := by simp; exact List.eq_nil_of_length_eq_zero hL
    go_wp2
    go_ret
    exact ⟨rfl, B2.out⟩
  · have hL0 : 0 < (encAll js).length := by omega
    have hLb : (((encAll js).length : Int) == 0) = false := by simp; intro e; rw [e] at hL; simp at hL
    clear hL
    by_cases hneg : cut < 0
    · obtain ⟨m, hm⟩ : ∃ m : Nat, -((cut + 1).tmod ((encAll js).length : Int)) = (m : Int) ∧ m < (encAll js).length := ⟨_, mod_neg cut _ hneg hL0, Nat.mod_lt _ hL0⟩
      obtain ⟨hm1, hm2⟩ := hm
      have hcap : (encAll js).length ≤ cbv := by
        obtain ⟨_, _, e, hc, _⟩ := Reads.of_owns H1.out
        simp only [Value.slice.injEq] at e
        omega
      have hrun := front_run abv (encAll js).length cbv m (by omega)
      have hread := (Reads.of_owns H1.out).front m (by omega)
      obtain ⟨abv', ha⟩ : ∃ a, a = (if m = 0 then abv else abv.map (·.add 0)) := ⟨_, rfl⟩
      rw [← ha] at hread
      rw [← ha] at hrun
      have HRD := hid hread
      clear ha hread
      go_wp2_with fail
      refine (NewReader_any HRD.out (by simp; omega)).mono ?_
      rintro e w3 ⟨b, D, rv, rfl, h1, h2, h3, -⟩
      have R0 : Hid (CutsRel w w3 js b D ev rv m 0) := by
        refine ⟨by simpa [encAll] using h1, by simp [encAll], owns_below (owns_base (by rw [HJL.out]; exact H2.out) B1.out.size) (fun g hg => h2.block g (World.ownsRow.lt H2.out g hg).2), fun e => ?_, B2.out.trans (h2.mono B2.out.size), Nat.le_trans B2.out.size h3⟩
        have := (World.ownsRow.lt H2.out _ e).2
        omega
      clear h1 h2 h3 hrun
      go_wp2
      go_loopw [10, 11] (fun bg iv wr => ∃ (k : Nat) (rv' : Value), k ≤ its.length ∧ iv = .int .i64 (k : Int) ∧ bg = .int .i64 ((encAll (js.take k)).length : Int) ∧ Hid (CutsRel w wr js b D ev rv' m k)) (fun _ iv _ => its.length - (intOf iv).toNat)
      case atStart => exact ⟨0, _, by omega, rfl, by simp [encAll], R0⟩
      case round =>
        obtain ⟨k, rv', hk, rfl, rfl, hrel⟩ := hrel
        have hlt : k < its.length := by
          by_cases h : k < its.length
          · exact h
          · have := hrel.out.le
            rw [List.take_of_length_le (by rw [HJL.out]; omega)] at this
            omega
        obtain ⟨x, hx⟩ : ∃ x, its[k]? = some x := ⟨_, List.getElem?_eq_getElem hlt⟩
        obtain ⟨g, o, rfl, hg, hcells⟩ : ∃ g o, ao = some ⟨g, o, none⟩ ∧ g < w.heap.size ∧ (wr.cell? ⟨g, o + k * 4, none⟩ = some (.int .i64 x.kind) ∧ wr.cell? ⟨g, o + k * 4 + 1, none⟩ = some (.int .i64 x.n) ∧ wr.cell? ⟨g, o + k * 4 + 2, none⟩ = some (.bool x.v) ∧ wr.cell? ⟨g, o + k * 4 + 3, none⟩ = some (.string x.s)) := by
          rcases HC.out with e | ⟨g, o, e, hg, hcell⟩
          · rw [e] at hlt; simp at hlt
          · refine ⟨g, o, e, hg, ?_⟩
            have hb := hrel.out.below
            rw [hb.cell (p := ⟨g, o + k * 4, none⟩) hg, hb.cell (p := ⟨g, o + k * 4 + 1, none⟩) hg, hb.cell (p := ⟨g, o + k * 4 + 2, none⟩) hg, hb.cell (p := ⟨g, o + k * 4 + 3, none⟩) hg]
            exact hcell k x hx
        obtain ⟨x0, x1, x2, x3⟩ := hcells
        have hok := HOK.out
        have hxo := hok x (List.mem_of_getElem? hx)
        have HX : Hid (js[k]? = some (rightI x)) := by rw [HJ.out]; simp [hx, Hid]
        have HRO := hid (rightI_ok x hxo)
        have HXO := hid hxo
        have hss : x.s.size ≤ 1099511627776 := Nat.le_trans (sizeI_mem its x (List.mem_of_getElem? hx)) hsz
        clear hx hxo hok
        go_wp2_with fail
        refine (right_any x HXO.out wr).mono ?_
        rintro e w4 ⟨rfl, hb2⟩
        have R1 := hid (hrel.out.later hb2)
        obtain ⟨ge, ce, hev, hge', hec⟩ := R1.out.end_at (j := k) (by rw [HJL.out]; exact hlt)
        subst hev
        have hec2 : (w4.alloc (.cells #[.int .i64 (rightI x).kind, .int .i64 (rightI x).n, .bool (rightI x).v, .string (rightI x).s] 35)).cell? ⟨ge, k, none⟩ = some (.int .i64 ((encAll (js.take (k + 1))).length : Int)) := by rw [World.cell?_alloc_past _ _ _ hge']; exact hec
        have hkj : k < js.length := by rw [HJL.out]; exact hlt
        have hlek := R1.out.le
        have R2 := hid (R1.out.later ((Below.refl _ _).alloc (Nat.le_refl _) (.cells #[.int .i64 (rightI x).kind, .int .i64 (rightI x).n, .bool (rightI x).v, .string (rightI x).s] 35)))
        have HJL2 := hid hkj
        clear hb2 x0 x1 x2 x3 hrel R1 hec
        have hro := HRO.out
        generalize rightI x = y at *
        have hks := hro.2.1
        by_cases hshort : m < (encAll (js.take (k + 1))).length
        · have CS := hid (cut_short js k m y HX.out hshort hlek)
          have hrd := R2.out.rd
          rw [CS.out.1] at hrd
          have GC := hid (gotR_cut y hro.1 hro.2.1 hro.2.2.1 (by rw [hro.2.2.2]; omega) _ CS.out.2)
          have hplen : (encAll (js.take k)).length + ((encI y).take (m - (encAll (js.take k)).length)).length ≤ 140737488355328 := by simp; omega
          have HG := hid (got_any hrd hplen y.kind hks)
          have eaf : aft ((encI y).take (m - (encAll (js.take k)).length)) (encAll (js.take k)).length 0 (gotR y.kind ((encI y).take (m - (encAll (js.take k)).length))).2.1 (gotR y.kind ((encI y).take (m - (encAll (js.take k)).length))).2.2 = ([], (encAll (js.take k)).length, 10) := by
            rw [GC.out]; simp [aft, keepE]
          rw [eaf] at HG
          clear hrd hplen eaf hro HRO HX
          go_wp2_with fail
          refine Calls.mono HG.out ?_
          rintro e w5 ⟨rfl, ⟨rv5, h1⟩, h2⟩
          have H5 := hid h1
          have B5 := hid (below_of_only R2.out.below h2 R2.out.new)
          clear h1 h2 HG GC CS
          go_wp2_with fail
          refine (Err_any H5.out).mono ?_
          rintro e w6 ⟨rfl, h1⟩
          have H6 := hid (H5.out.below h1)
          have B6 := hid (B5.out.trans (h1.mono B5.out.size))
          clear h1 H5 B5
          go_wp2_with fail
          refine (Num_any H6.out (by simp; omega) 9223372036854775807).mono ?_
          rw [numR_none, aft_none]
          rintro e w7 ⟨rfl, ⟨rv7, h1⟩, h2⟩
          have H7 := hid h1
          have B7 := hid (below_of_only B6.out h2 R2.out.new)
          clear h1 h2 H6 B6
          go_wp2_with fail
          refine (Err_any H7.out).mono ?_
          rintro e w8 ⟨rfl, h1⟩
          have B8 := hid (B7.out.trans (h1.mono B7.out.size))
          clear h1 H7 B7
          go_wp2
          go_ret
          exact ⟨rfl, B8.out⟩
        · have hle1 : (encAll (js.take (k + 1))).length ≤ m := by omega
          have hrd := R2.out.rd
          rw [cut_whole js k m y HX.out hle1] at hrd
          have hboth := encAll_both js k
          rw [encAll_drop js k _ HX.out, List.length_append] at hboth
          have HG := hid (back_any y hro.1 hro.2.1 hro.2.2.1 (by rw [hro.2.2.2]; omega) hrd (by simp; omega))
          have HRO2 := hid hro
          clear hrd hboth hro HRO hks
          go_wp2_with fail
          refine Calls.mono HG.out ?_
          rintro e w5 ⟨rfl, ⟨rv5, h1⟩, h2⟩
          have R3 := hid (R2.out.read (k' := k + 1) h2 hle1 (by rw [← List.length_append, ← encAll_succ js k _ HX.out] at h1; exact h1))
          obtain ⟨ge', ce', hev, hge2, hec3⟩ := R3.out.end_at (j := k) HJL2.out
          simp only [Value.slice.injEq, Option.some.injEq, Addr.mk.injEq, and_true, true_and] at hev
          obtain ⟨rfl, rfl⟩ := hev
          clear h1 h2 R2 HG
          go_wp2
          go_roundw
          case rel => exact ⟨k + 1, rv5, by omega, by go_num, rfl, R3⟩
          case measure => simp [intOf]; omega
    · obtain ⟨m, hm⟩ : ∃ m : Nat, cut % ((encAll js).length : Int) = (m : Int) ∧ m < (encAll js).length := ⟨_, mod_pos cut _ hneg hL0, Nat.mod_lt _ hL0⟩
      obtain ⟨hm1, hm2⟩ := hm
      have hcap : (encAll js).length ≤ cbv := by
        obtain ⟨_, _, e, hc, _⟩ := Reads.of_owns H1.out
        simp only [Value.slice.injEq] at e
        omega
      have hneg' : 0 ≤ cut := by omega
      clear hneg
      have hrun := front_run abv (encAll js).length cbv m (by omega)
      have hread := (Reads.of_owns H1.out).front m (by omega)
      obtain ⟨abv', ha⟩ : ∃ a, a = (if m = 0 then abv else abv.map (·.add 0)) := ⟨_, rfl⟩
      rw [← ha] at hread
      rw [← ha] at hrun
      have HRD := hid hread
      clear ha hread
      go_wp2_with fail
      refine (NewReader_any HRD.out (by simp; omega)).mono ?_
      rintro e w3 ⟨b, D, rv, rfl, h1, h2, h3, -⟩
      have R0 : Hid (CutsRel w w3 js b D ev rv m 0) := by
        refine ⟨by simpa [encAll] using h1, by simp [encAll], owns_below (owns_base (by rw [HJL.out]; exact H2.out) B1.out.size) (fun g hg => h2.block g (World.ownsRow.lt H2.out g hg).2), fun e => ?_, B2.out.trans (h2.mono B2.out.size), Nat.le_trans B2.out.size h3⟩
        have := (World.ownsRow.lt H2.out _ e).2
        omega
      clear h1 h2 h3 hrun
      go_wp2
      go_loopw [10, 11] (fun bg iv wr => ∃ (k : Nat) (rv' : Value), k ≤ its.length ∧ iv = .int .i64 (k : Int) ∧ bg = .int .i64 ((encAll (js.take k)).length : Int) ∧ Hid (CutsRel w wr js b D ev rv' m k)) (fun _ iv _ => its.length - (intOf iv).toNat)
      case atStart => exact ⟨0, _, by omega, rfl, by simp [encAll], R0⟩
      case round =>
        obtain ⟨k, rv', hk, rfl, rfl, hrel⟩ := hrel
        have hlt : k < its.length := by
          by_cases h : k < its.length
          · exact h
          · have := hrel.out.le
            rw [List.take_of_length_le (by rw [HJL.out]; omega)] at this
            omega
        obtain ⟨x, hx⟩ : ∃ x, its[k]? = some x := ⟨_, List.getElem?_eq_getElem hlt⟩
        obtain ⟨g, o, rfl, hg, hcells⟩ : ∃ g o, ao = some ⟨g, o, none⟩ ∧ g < w.heap.size ∧ (wr.cell? ⟨g, o + k * 4, none⟩ = some (.int .i64 x.kind) ∧ wr.cell? ⟨g, o + k * 4 + 1, none⟩ = some (.int .i64 x.n) ∧ wr.cell? ⟨g, o + k * 4 + 2, none⟩ = some (.bool x.v) ∧ wr.cell? ⟨g, o + k * 4 + 3, none⟩ = some (.string x.s)) := by
          rcases HC.out with e | ⟨g, o, e, hg, hcell⟩
          · rw [e] at hlt; simp at hlt
          · refine ⟨g, o, e, hg, ?_⟩
            have hb := hrel.out.below
            rw [hb.cell (p := ⟨g, o + k * 4, none⟩) hg, hb.cell (p := ⟨g, o + k * 4 + 1, none⟩) hg, hb.cell (p := ⟨g, o + k * 4 + 2, none⟩) hg, hb.cell (p := ⟨g, o + k * 4 + 3, none⟩) hg]
            exact hcell k x hx
        obtain ⟨x0, x1, x2, x3⟩ := hcells
        have hok := HOK.out
        have hxo := hok x (List.mem_of_getElem? hx)
        have HX : Hid (js[k]? = some (rightI x)) := by rw [HJ.out]; simp [hx, Hid]
        have HRO := hid (rightI_ok x hxo)
        have HXO := hid hxo
        have hss : x.s.size ≤ 1099511627776 := Nat.le_trans (sizeI_mem its x (List.mem_of_getElem? hx)) hsz
        clear hx hxo hok
        go_wp2_with fail
        refine (right_any x HXO.out wr).mono ?_
        rintro e w4 ⟨rfl, hb2⟩
        have R1 := hid (hrel.out.later hb2)
        obtain ⟨ge, ce, hev, hge', hec⟩ := R1.out.end_at (j := k) (by rw [HJL.out]; exact hlt)
        subst hev
        have hec2 : (w4.alloc (.cells #[.int .i64 (rightI x).kind, .int .i64 (rightI x).n, .bool (rightI x).v, .string (rightI x).s] 35)).cell? ⟨ge, k, none⟩ = some (.int .i64 ((encAll (js.take (k + 1))).length : Int)) := by rw [World.cell?_alloc_past _ _ _ hge']; exact hec
        have hkj : k < js.length := by rw [HJL.out]; exact hlt
        have hlek := R1.out.le
        have R2 := hid (R1.out.later ((Below.refl _ _).alloc (Nat.le_refl _) (.cells #[.int .i64 (rightI x).kind, .int .i64 (rightI x).n, .bool (rightI x).v, .string (rightI x).s] 35)))
        have HJL2 := hid hkj
        clear hb2 x0 x1 x2 x3 hrel R1 hec
        have hro := HRO.out
        generalize rightI x = y at *
        have hks := hro.2.1
        by_cases hshort : m < (encAll (js.take (k + 1))).length
        · have CS := hid (cut_short js k m y HX.out hshort hlek)
          have hrd := R2.out.rd
          rw [CS.out.1] at hrd
          have GC := hid (gotR_cut y hro.1 hro.2.1 hro.2.2.1 (by rw [hro.2.2.2]; omega) _ CS.out.2)
          have hplen : (encAll (js.take k)).length + ((encI y).take (m - (encAll (js.take k)).length)).length ≤ 140737488355328 := by simp; omega
          have HG := hid (got_any hrd hplen y.kind hks)
          have eaf : aft ((encI y).take (m - (encAll (js.take k)).length)) (encAll (js.take k)).length 0 (gotR y.kind ((encI y).take (m - (encAll (js.take k)).length))).2.1 (gotR y.kind ((encI y).take (m - (encAll (js.take k)).length))).2.2 = ([], (encAll (js.take k)).length, 10) := by
            rw [GC.out]; simp [aft, keepE]
          rw [eaf] at HG
          clear hrd hplen eaf hro HRO HX
          go_wp2_with fail
          refine Calls.mono HG.out ?_
          rintro e w5 ⟨rfl, ⟨rv5, h1⟩, h2⟩
          have H5 := hid h1
          have B5 := hid (below_of_only R2.out.below h2 R2.out.new)
          clear h1 h2 HG GC CS
          go_wp2_with fail
          refine (Err_any H5.out).mono ?_
          rintro e w6 ⟨rfl, h1⟩
          have H6 := hid (H5.out.below h1)
          have B6 := hid (B5.out.trans (h1.mono B5.out.size))
          clear h1 H5 B5
          go_wp2_with fail
          refine (Num_any H6.out (by simp; omega) 9223372036854775807).mono ?_
          rw [numR_none, aft_none]
          rintro e w7 ⟨rfl, ⟨rv7, h1⟩, h2⟩
          have H7 := hid h1
          have B7 := hid (below_of_only B6.out h2 R2.out.new)
          clear h1 h2 H6 B6
          go_wp2_with fail
          refine (Err_any H7.out).mono ?_
          rintro e w8 ⟨rfl, h1⟩
          have B8 := hid (B7.out.trans (h1.mono B7.out.size))
          clear h1 H7 B7
          go_wp2
          go_ret
          exact ⟨rfl, B8.out⟩
        · have hle1 : (encAll (js.take (k + 1))).length ≤ m := by omega
          have hrd := R2.out.rd
          rw [cut_whole js k m y HX.out hle1] at hrd
          have hboth := encAll_both js k
          rw [encAll_drop js k _ HX.out, List.length_append] at hboth
          have HG := hid (back_any y hro.1 hro.2.1 hro.2.2.1 (by rw [hro.2.2.2]; omega) hrd (by simp; omega))
          have HRO2 := hid hro
          clear hrd hboth hro HRO hks
          go_wp2_with fail
          refine Calls.mono HG.out ?_
          rintro e w5 ⟨rfl, ⟨rv5, h1⟩, h2⟩
          have R3 := hid (R2.out.read (k' := k + 1) h2 hle1 (by rw [← List.length_append, ← encAll_succ js k _ HX.out] at h1; exact h1))
          obtain ⟨ge', ce', hev, hge2, hec3⟩ := R3.out.end_at (j := k) HJL2.out
          simp only [Value.slice.injEq, Option.some.injEq, Addr.mk.injEq, and_true, true_and] at hev
          obtain ⟨rfl, rfl⟩ := hev
          clear h1 h2 R2 HG
          go_wp2
          go_roundw
          case rel => exact ⟨k + 1, rv5, by omega, by go_num, rfl, R3⟩
          case measure => simp [intOf]; omega

end Go.Proofs.Ytdndfbgjaadbmaa

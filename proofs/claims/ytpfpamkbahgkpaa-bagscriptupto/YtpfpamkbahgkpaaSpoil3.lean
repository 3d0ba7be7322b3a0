import Derived.Test.YtpfpamkbahgkpaaSpoilC
namespace Go.Proofs.Ytpfpamkbahgkpaa
open Go.RowKit
set_option linter.unusedVariables false

theorem mark_cell (i : Nat) : ((i : Int) * 7 + 1) % 256 = ((UInt8.ofNat (i * 7 + 1)).toNat : Int) := by
  rw [UInt8.toNat_ofNat']
  omega

/-- The shelf behind the spoiling: its lists are but read. -/
structure SpE (w : World) (S : Nat) (ov wv : Value) (cs : List Comp) (es : List En) : Prop where
  all : All (boxC S ov wv :: slC ov (es.map En.a) :: slC wv (es.map En.m) :: rdC es :: cs) w
  ok : ∀ e ∈ es, e.la = e.lm ∧ e.la.length ≤ 2199023255552

theorem SpE.box {w : World} {S : Nat} {ov wv : Value} {cs : List Comp} {es : List En} (h : SpE w S ov wv cs es) : ShBox w S ov wv es := by
  have h1 : w.ownsRow 0 31 1 ov (es.map En.a).length (es.map En.a) := h.all.2.2.1.2.1
  have h2 : w.ownsRow 0 31 1 wv (es.map En.m).length (es.map En.m) := h.all.2.2.2.2.1.2.1
  rw [List.length_map] at h1 h2
  exact ⟨h.all.1.2.1, h1, h2⟩

theorem SpE.reads {w : World} {S : Nat} {ov wv : Value} {cs : List Comp} {es : List En} (h : SpE w S ov wv cs es) : ∀ e ∈ es, Reads w e.a e.la ∧ Reads w e.m e.lm ∧ e.la = e.lm ∧ e.la.length ≤ 140737488355328 := by
  intro e he
  have hr : ∀ e ∈ es, Reads w e.a e.la ∧ Reads w e.m e.lm := h.all.2.2.2.2.2.2.1.2.1
  exact ⟨(hr e he).1, (hr e he).2, (h.ok e he).1, Nat.le_trans (h.ok e he).2 (by decide)⟩

theorem SpE.holds {w : World} {S : Nat} {ov wv : Value} {cs : List Comp} {es : List En} (h : SpE w S ov wv cs es) (hl : es.length ≤ 1099511627776) :
    Calls Try.prog 14 #[.pointer (some ⟨S, 0, none⟩)] w fun e w' => e = .returned (.bool true) ∧ ∃ q, w' = w.drewN q :=
  holds_any h.box h.reads (by omega)

theorem SpA.reads {w : World} {S : Nat} {ov wv : Value} {us ms : List Value} {cs : List Comp} {es : List En} (h : SpA w S ov wv us ms cs es) : ∀ x ∈ es, Reads w x.a x.la ∧ Reads w x.m x.lm ∧ x.la = x.lm ∧ x.la.length ≤ 140737488355328 := by
  intro x hx
  have := h.ok x hx
  have hr := h.rowA hx
  exact ⟨Reads.of_owns hr.1, Reads.of_owns hr.2, this.1, by omega⟩

theorem SpA.drewN {w : World} {S : Nat} {ov wv : Value} {us ms : List Value} {cs : List Comp} {es : List En} (h : SpA w S ov wv us ms cs es) (q : Nat) : SpA (w.drewN q) S ov wv us ms cs es :=
  ⟨h.all.kept (F := []) ⟨rfl, rfl, rfl, Nat.le_refl _, fun _ _ _ => rfl⟩ (fun d _ k hk => by cases hk), h.ea, h.em, h.ok⟩

set_option maxHeartbeats 6400000 in
set_option maxRecDepth 1000000 in
theorem spoil_any {w : World} {S : Nat} {ov wv : Value} {us ms : List Value} {cs : List Comp} {es : List En} (h : SpA w S ov wv us ms cs es) (hn : es.length ≤ 1099511627776) :
    Calls Try.prog 15 #[.pointer (some ⟨S, 0, none⟩)] w fun e w' => e = .returned (.bool true) ∧ ∃ ov' wv' es2, es2.length = 2 * es.length ∧ SpE w' S ov' wv' cs es2 := by
  obtain ⟨ao, c, ao', c', eo, ew⟩ := h.box.forms
  have HC0 := hid (holds_any h.box h.reads (by omega))
  have HA0 := hid h
  have c0 : w.cell? ⟨S, 0, none⟩ = some (.slice ao es.length c) := by rw [cell_at h.box.box, ← eo]; rfl
  have EO := hid eo
  have EW := hid ew
  have hl := h.lens
  clear h eo ew
  go_enter Try.func15, Try.ntmps15
  go_wp2_with fail
  refine Calls.mono HC0.out ?_
  rintro e0 w00 ⟨rfl, q00, rfl⟩
  have HA := hid (HA0.out.drewN q00)
  clear HC0 HA0
  go_wp2
  go_loopw [4] (fun iv wr => ∃ (i : Nat) (es' : List En), i ≤ es.length ∧ iv = .int .i64 (i : Int) ∧ Hid (SpA wr S ov wv us ms cs es')) (fun iv _ => es.length - (intOf iv).toNat)
  case atStart => exact ⟨0, es, by omega, rfl, HA⟩
  case round =>
    obtain ⟨i, es', hi, rfl, hrel⟩ := hrel
    have hle : es'.length = es.length := by have := hrel.out.lens; omega
    by_cases hlt : i < es.length
    · obtain ⟨e, he⟩ : ∃ e, es'[i]? = some e := ⟨_, List.getElem?_eq_getElem (by omega)⟩
      obtain ⟨aa, ca, ea⟩ := owns_form (hrel.out.rowA (List.mem_of_getElem? he)).1
      have hlen := (hrel.out.ok e (List.mem_of_getElem? he)).2
      have HE := hid he
      have HLE := hid hle
      have EA := hid ea
      clear he hle ea
      go_wp2
      go_loopw [5] (fun kv wr2 => ∃ (k : Nat) (es2 : List En) (e2 : En), k ≤ e.la.length ∧ kv = .int .i64 (k : Int) ∧ Hid (SpA wr2 S ov wv us ms cs es2 ∧ es2[i]? = some e2 ∧ e2.a = e.a ∧ e2.m = e.m ∧ e2.la.length = e.la.length)) (fun kv _ => e.la.length - (intOf kv).toNat)
      case atStart => exact ⟨0, es', e, by omega, rfl, hrel.out, HE.out, rfl, rfl, rfl⟩
      case round =>
        obtain ⟨k, es2, e2, hk, rfl, hrel2⟩ := hrel
        obtain ⟨hsp, hge, hea, hem, hel⟩ := hrel2.out
        have hle2 : es2.length = es.length := by have := hsp.lens; omega
        by_cases hk2 : k < e.la.length
        · obtain ⟨g, cg, g', cg', go, co, gw, cw, ea2, em2, eo2, ew2, q0, q1, q2, q3, ⟨u, q4⟩, ⟨u', q5⟩, q6, q7, d1, d2, d3, hnext⟩ := hsp.round i e2 hge k (by omega)
          obtain ⟨es3, e3, h3⟩ := hnext (UInt8.ofNat (i * 7 + 1))
          rw [← mark_cell i] at h3
          have R3 := hid h3
          rw [eo2] at q0
          rw [ew2] at q1
          rw [ea2] at q2
          rw [em2] at q3
          have HEA := hid hea
          have HEM := hid hem
          have HEL := hid hel
          have hi2 : i < es2.length := by omega
          have hk3 : k < e2.la.length := by omega
          have hlen2 : e2.la.length ≤ 1099511627776 := by omega
          have hi3 : i ≤ 1099511627776 := by omega
          have hk4 : k + 1 ≤ e.la.length := by omega
          clear hsp hge hnext h3 ea2 em2 eo2 ew2 hrel2 hle2 hea hem hel hk2 hlt hi
          go_wp2
          go_roundw
          case rel => exact ⟨k + 1, es3, e3, hk4, by go_num, R3.out.1, R3.out.2.1, R3.out.2.2.1.trans HEA.out, R3.out.2.2.2.1.trans HEM.out, R3.out.2.2.2.2.trans HEL.out⟩
          case measure => simp [intOf]; omega
        · obtain ⟨go, co, gw, cw, eo2, ew2, q2, _⟩ := hsp.box.at i e2 hge
          have q0 : wr.cell? ⟨S, 0, none⟩ = some (.slice (some ⟨go, 0, none⟩) es2.length co) := by rw [cell_at hsp.box.box, ← eo2]; rfl
          rw [hea, EA.out] at q2
          have hi2 : i < es2.length := by omega
          have R2 := hid hsp
          clear hsp hge eo2 ew2 hrel2 hle2 hea hem hel
          go_wp2
          go_roundw
          case rel => exact ⟨i + 1, es2, by omega, by go_num, R2⟩
          case measure => simp [intOf]; omega
    · have R1 := hid hrel.out
      have hbx := hrel.out.box
      have hrd : ∀ x ∈ es', Reads wr x.a x.la ∧ Reads wr x.m x.lm ∧ x.la = x.lm ∧ x.la.length ≤ 140737488355328 := by
        intro x hx
        have := hrel.out.ok x hx
        have hr := hrel.out.rowA hx
        exact ⟨Reads.of_owns hr.1, Reads.of_owns hr.2, this.1, by omega⟩
      have HC := hid (holds_any hbx hrd (by omega))
      clear hbx hrd hrel
      go_wp2_with fail
      refine Calls.mono HC.out ?_
      rintro e w2 ⟨rfl, q, rfl⟩
      have B0 : Hid (SpB (wr.drewN q) S ov wv cs [] es' []) := SpB.of ⟨R1.out.all.kept (F := []) ⟨rfl, rfl, rfl, Nat.le_refl _, fun _ _ _ => rfl⟩ (fun d _ k hk => by cases hk), R1.out.ea, R1.out.em, R1.out.ok⟩
      have HLE := hid hle
      clear HC R1 c0 hle
      obtain ⟨i5, hi5, hz50, hz51, hz52⟩ := info_parts Try.info5
      obtain ⟨i37, hi37, hz370, hz371, hz372⟩ := info_parts Try.info31
      go_wp2
      go_loopw [6] (fun iv wr => ∃ (i : Nat) (done post news : List En) (ov wv : Value), i ≤ es.length ∧ iv = .int .i64 (i : Int) ∧ Hid (done.length = i ∧ (done ++ post).length = es.length ∧ news.length = i ∧ SpB wr S ov wv cs done post news)) (fun iv _ => es.length - (intOf iv).toNat)
      case atStart => exact ⟨0, [], es', [], ov, wv, by omega, rfl, rfl, by simpa using HLE.out, rfl, B0⟩
      case round =>
        obtain ⟨i, done, post, news, ov2, wv2, hi, rfl, hrel⟩ := hrel
        by_cases hlt : i < es.length
        · obtain ⟨hdl, hpl, hnl, hsp⟩ := hrel.out
          obtain ⟨e, post', rfl⟩ : ∃ e post', post = e :: post' := by
            cases post with
            | nil => simp at hpl; omega
            | cons e p => exact ⟨e, p, rfl⟩
          have hge : (done ++ (e :: post') ++ news)[i]? = some e := by
            rw [List.append_assoc, List.getElem?_append_right (by omega)]
            simp [hdl]
          obtain ⟨go, co, gw, cw, eo2, ew2, q2, q3⟩ := hsp.box.at i e hge
          have q0 : wr.cell? ⟨S, 0, none⟩ = some (.slice (some ⟨go, 0, none⟩) (done ++ (e :: post') ++ news).length co) := by rw [cell_at hsp.box.box, ← eo2]; rfl
          have q1 : wr.cell? ⟨S, 1, none⟩ = some (.slice (some ⟨gw, 0, none⟩) (done ++ (e :: post') ++ news).length cw) := by rw [cell_at hsp.box.box, ← ew2]; rfl
          have hrow : wr.ownsRow 0 5 1 e.a e.la.length (cellsB e.la) ∧ wr.ownsRow 0 5 1 e.m e.lm.length (cellsB e.lm) :=
            ⟨(hsp.all.2.2.2.2.2.2.2.2.mem (c := byR e.a e.la) (by simp [byRs])).2.1, (hsp.all.2.2.2.2.2.2.2.2.mem (c := byR e.m e.lm) (by simp [byRs])).2.1⟩
          obtain ⟨aa, ca, ea⟩ := owns_form hrow.1
          obtain ⟨am, cm, em⟩ := owns_form hrow.2
          have hok := hsp.ok e (by simp)
          have RM := hid (Reads.of_owns hrow.2)
          rw [em] at RM
          rw [ea] at q2
          rw [em] at q3
          have hil : i < (done ++ (e :: post') ++ news).length := by simp; omega
          have HD := hid hrel.out
          have EA := hid ea
          have hlm := hok.1
          have hbl : e.lm.length ≤ 2199023255552 := by rw [← hok.1]; exact hok.2
          have hbl2 : e.la.length ≤ 2199023255552 := hok.2
          have HLM := hid hlm
          generalize hNN : (done ++ (e :: post') ++ news).length = NN at *
          have hNb : NN ≤ 2199023255552 := by rw [← hNN]; simp; simp at hpl; omega
          have HNN := hid hNN
          clear hdl hpl hnl hsp hge eo2 ew2 hrow hok hrel ea em hlm hNN
          go_wp2_with fail
          refine (lcopied_any RM.out (by omega)).mono ?_
          rintro e0 w2 ⟨v2, rfl, h1, h2⟩
          obtain ⟨x2, y2, hv2⟩ := owns_form h1
          subst hv2
          have A1 := hid (HD.out.2.2.2.begin h2 h1)
          clear h1 h2 q0 q1 q2 q3
          go_wp2
          go_loopw [7, 8, 9] (fun lv mv kv wr => ∃ (k : Nat) (t : List UInt8), k ≤ 12 ∧ kv = .int .i64 (k : Int) ∧ Hid (t.length = k ∧ All (extC e.a e.la lv (e.la ++ t) :: byR mv (e.lm ++ t) :: restB S ov2 wv2 cs done post' news e) wr)) (fun _ _ kv _ => 12 - (intOf kv).toNat)
          case atStart => exact ⟨0, [], by omega, rfl, rfl, by rw [List.append_nil, List.append_nil, ← EA.out]; exact A1.out⟩
          case round =>
            obtain ⟨k, t, hk, rfl, hrel⟩ := hrel
            obtain ⟨htl, hall⟩ := hrel.out
            obtain ⟨La, hLa⟩ : ∃ La, La = e.la ++ t := ⟨_, rfl⟩
            obtain ⟨Lm, hLm⟩ : ∃ Lm, Lm = e.lm ++ t := ⟨_, rfl⟩
            rw [← hLa, ← hLm] at hall
            have AL := hid hall
            have HTL := hid htl
            have hl8 : wr.ownsRow 0 5 1 u7 La.length (cellsB La) := hall.1.2.1.2.1
            have hl9 : wr.ownsRow 0 5 1 u8 Lm.length (cellsB Lm) := hall.2.2.1.2.1
            have hb8 : La.length ≤ 2199023255600 := by rw [hLa, List.length_append]; omega
            have hb9 : Lm.length ≤ 2199023255600 := by rw [hLm, List.length_append]; omega
            have HLa := hid hLa
            have HLm := hid hLm
            clear htl hall hrel hLa hLm
            by_cases hk2 : k < 12
            · go_wp2_with (at_builtin; refine wpList_append_two _ rfl (.tmp 88) (.tmp 93) 31 rfl 5 i5 (.int .u8 0) 1 1 Try.underlying31 hi5 hz50 hz51 hz52 rfl (by decide) _ _ _ rfl (hl8.alloc _) ⟨wr.heap.size, 0, none⟩ 1 1 [.int .u8 (((i : Int) * 7 + 2) % 256)] rfl rfl (cell_one_new _ _ _) (fun u hu => by simp at hu; subst hu; rfl) (by omega) (by unfold maxLen; omega) (by omega) ?_)
              intro g1 cap1 w3 hown hgr hat
              rw [mark2_cell i] at hown
              have A2 := hid (((AL.out.alloc (.cells #[.int .u8 (((i : Int) * 7 + 2) % 256)] 5)).ext_append hown hgr (by simpa using hat))).swap
              have hl9b : w3.ownsRow 0 5 1 u8 Lm.length (cellsB Lm) := A2.out.1.2.1
              clear hown hgr hat hl8 hl9
              go_wp2_with (at_builtin; refine wpList_append_two _ rfl (.tmp 95) (.tmp 100) 31 rfl 5 i5 (.int .u8 0) 1 1 Try.underlying31 hi5 hz50 hz51 hz52 rfl (by decide) _ _ _ rfl (hl9b.alloc _) ⟨w3.heap.size, 0, none⟩ 1 1 [.int .u8 (((i : Int) * 7 + 2) % 256)] rfl rfl (cell_one_new _ _ _) (fun u hu => by simp at hu; subst hu; rfl) (by omega) (by unfold maxLen; omega) (by omega) ?_)
              intro g2 cap2 w4 hown hgr hat
              rw [mark2_cell i] at hown
              have A3 := hid (((A2.out.alloc (.cells #[.int .u8 (((i : Int) * 7 + 2) % 256)] 5)).byR_append hown hgr (by simpa using hat))).swap
              clear hown hgr hat hl9b A2
              go_wp2
              go_roundw
              case rel => exact ⟨k + 1, t ++ [UInt8.ofNat (i * 7 + 2)], by omega, by go_num, by rw [List.length_append, HTL.out]; rfl, by rw [← List.append_assoc, ← List.append_assoc, ← HLa.out, ← HLm.out]; exact A3.out⟩
              case measure => simp [intOf]; omega
            · obtain ⟨a8, c8, e8⟩ := owns_form hl8
              obtain ⟨a9, c9, e9⟩ := owns_form hl9
              subst e8 e9
              have R0 := restB_close AL.out
              obtain ⟨U, hU⟩ : ∃ U, U = (done ++ (e :: post') ++ news).map En.a := ⟨_, rfl⟩
              obtain ⟨M, hM⟩ : ∃ M, M = (done ++ (e :: post') ++ news).map En.m := ⟨_, rfl⟩
              have hUl : U.length = NN := by rw [hU, List.length_map, HNN.out]
              have hMl : M.length = NN := by rw [hM, List.length_map, HNN.out]
              rw [← hU, ← hM] at R0
              have R := hid R0
              have horow : wr.ownsRow 0 31 1 ov2 U.length U := R0.2.2.1.2.1
              have hwrow : wr.ownsRow 0 31 1 wv2 M.length M := R0.2.2.2.2.1.2.1
              obtain ⟨ao2, co2, eo2⟩ := owns_form horow
              obtain ⟨aw2, cw2, ew2⟩ := owns_form hwrow
              have hb0 : wr.heap[S]? = some (.cells #[ov2, wv2] 30 (0, 0)) := R0.1.2.1
              rw [eo2, ew2] at hb0
              have c0 : wr.cell? ⟨S, 0, none⟩ = some (.slice ao2 U.length co2) := by rw [cell_at hb0]; rfl
              rw [eo2] at horow
              rw [eo2, ew2] at R
              have HU := hid hU
              have HM := hid hM
              have hk12 : k = 12 := by omega
              have hbU : U.length ≤ 2199023255552 := by omega
              have hbM : M.length ≤ 2199023255552 := by omega
              clear R0 hU hM hUl hMl hwrow eo2 ew2 hb0 hl8 hl9 AL A1 RM
              go_wp2_with (at_builtin; refine wpList_append_own_at _ rfl (.tmp 106) (.tmp 108) 28 rfl 0 31 i37 (.slice none 0 0) 1 24 Try.underlying28 hi37 hz370 hz371 hz372 rfl (by decide) _ _ _ rfl (horow.alloc _) ⟨wr.heap.size, 0, none⟩ 1 1 [.slice a8 La.length c8] rfl rfl (cell_one_new _ _ _) (fun u hu => by simp at hu; subst hu; rfl) (by unfold maxLen; omega) (by omega) (by omega) ?_)
              intro ov' w1 hown hgr hnil hat
              have A1 := hid (((R.out.alloc (.cells #[.slice a8 La.length c8] 31)).swap).sl_append hown hgr (by simpa using hat)).swap
              obtain ⟨ao', c', eo⟩ := owns_form hown
              subst eo
              clear hown hgr hnil hat horow R
              have hb1 := A1.out.1.2.1
              have d0 : w1.cell? ⟨S, 0, none⟩ = some (.slice ao2 U.length co2) := by rw [cell_at hb1]; rfl
              have d1 : w1.cell? ⟨S, 1, none⟩ = some (.slice aw2 M.length cw2) := by rw [cell_at hb1]; rfl
              have f0 : w1.frozen? ⟨S, 0, none⟩ = false := free_at hb1 0
              have A2 := hid (A1.out.box_set0 (u := .slice ao' (U.length + 1) c'))
              have hwrow : (w1.setCell ⟨S, 0, none⟩ (.slice ao' (U.length + 1) c')).ownsRow 0 31 1 (.slice aw2 M.length cw2) M.length M := A2.out.2.2.2.2.1.2.1
              have hnew := cell_one_new (w1.setCell ⟨S, 0, none⟩ (.slice ao' (U.length + 1) c')) (.slice a9 Lm.length c9) 31
              rw [World.size_setCell] at hnew
              have HNEW := hid hnew
              have HWR := hid hwrow
              clear hb1 c0 A1 hnew hwrow
              go_wp2_with (at_builtin; refine wpList_append_own_at _ rfl (.tmp 116) (.tmp 118) 28 rfl 0 31 i37 (.slice none 0 0) 1 24 Try.underlying28 hi37 hz370 hz371 hz372 rfl (by decide) _ _ _ rfl (HWR.out.alloc _) ⟨w1.heap.size, 0, none⟩ 1 1 [.slice a9 Lm.length c9] rfl rfl HNEW.out (fun u hu => by simp at hu; subst hu; rfl) (by unfold maxLen; omega) (by omega) (by omega) ?_)
              intro wv' w3 hown hgr hnil hat
              have A3 := hid ((A2.out.alloc (.cells #[.slice a9 Lm.length c9] 31)).sl_append2 hown hgr (by simpa using hat))
              obtain ⟨aw', cw', ew⟩ := owns_form hown
              subst ew
              clear hown hgr hnil hat HWR HNEW A2
              have hb3 := A3.out.1.2.1
              have d1 : w3.cell? ⟨S, 1, none⟩ = some (.slice aw2 M.length cw2) := by rw [cell_at hb3]; rfl
              have f1 : w3.frozen? ⟨S, 1, none⟩ = false := free_at hb3 1
              have A4 := hid (A3.out.box_set1 (u := .slice aw' (M.length + 1) cw'))
              clear hb3 A3 d0
              go_wp2
              go_roundw
              case rel =>
                have hU := HU.out
                have hM := HM.out
                clear HU HM
                subst hU hM
                obtain ⟨hd1, hd2, hd3, hd4⟩ := HD.out
                have hp := hd4.okp e (by simp)
                have htk := HTL.out
                refine ⟨i + 1, done ++ [e], post', news ++ [⟨_, _, La, Lm⟩], _, _, by omega, by go_num, by simp [hd1], by simpa using hd2, by simp [hd3], SpB.grew hd4.ok (fun x hx => hd4.okp x (by simp [hx])) (by rw [HLa.out, HLm.out, HLM.out]) (by rw [HLa.out, List.length_append]; omega) A4.out⟩
              case measure => simp [intOf]; omega
        · obtain ⟨hdl, hpl, hnl, hsp⟩ := hrel.out
          have hpost : post = [] := by
            rw [List.length_append] at hpl
            exact List.eq_nil_of_length_eq_zero (by omega)
          subst hpost
          have hbx := hsp.box
          have HC := hid (holds_any hbx hsp.ends (by simp; omega))
          have HS := hid hsp
          have HL := hid (show done.length = i ∧ (done ++ []).length = es.length ∧ news.length = i ∧ SpB wr S ov2 wv2 cs done [] news from ⟨hdl, hpl, hnl, hsp⟩)
          clear hbx hsp hpl hdl hnl hrel
          go_wp2_with fail
          refine Calls.mono HC.out ?_
          rintro e w2 ⟨rfl, q, rfl⟩
          have HF := hid (show (done ++ news).length = 2 * es.length ∧ SpE (wr.drewN q) S ov2 wv2 cs (done ++ news) from by
            obtain ⟨hd1, hd2, hd3, hd4⟩ := HL.out
            refine ⟨by simp at hd2 ⊢; omega, ⟨?_, fun e he => hd4.ok e (by simpa using he)⟩⟩
            have := hd4.all
            simp only [List.append_nil, byRs, List.flatMap_nil, List.nil_append] at this
            exact this.kept (F := []) ⟨rfl, rfl, rfl, Nat.le_refl _, fun _ _ _ => rfl⟩ (fun d _ k hk => by cases hk))
          clear HC HS HL
          go_wp2
          go_ret
          exact ⟨rfl, _, _, _, HF.out.1, HF.out.2⟩

end Go.Proofs.Ytpfpamkbahgkpaa

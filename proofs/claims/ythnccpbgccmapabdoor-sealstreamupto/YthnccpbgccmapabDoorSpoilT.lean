import Derived.Test.YthnccpbgccmapabDoorSpoil3
namespace Go.Proofs.YthnccpbgccmapabDoor
open Go.RowKit
set_option linter.unusedVariables false
attribute [local go_sem ↓] Go.wp_at_zero Go.wp_at_succ

/-- A list without spare room. -/
def Tight (v : Value) : Prop := ∃ ao n, v = .slice ao n n ∧ n ≤ 1048576

/-- The shelf while its lists grow, each apart. -/
structure SpT (w : World) (S : Nat) (ov wv : Value) (cs : List Comp) (done post news : List En) : Prop where
  all : All (boxC S ov wv :: slC ov ((done ++ post ++ news).map En.a) :: slC wv ((done ++ post ++ news).map En.m) :: (rows (done ++ news) ++ (rows post ++ cs))) w
  ok : ∀ e ∈ done ++ post ++ news, e.la = e.lm ∧ e.la.length ≤ 1048600
  okp : ∀ e ∈ post, e.la.length ≤ 1048576
  tight : ∀ e ∈ post, Tight e.a

theorem SpT.box {w : World} {S : Nat} {ov wv : Value} {cs : List Comp} {done post news : List En} (h : SpT w S ov wv cs done post news) : ShBox w S ov wv (done ++ post ++ news) := by
  have h1 : w.ownsRow 0 26 1 ov ((done ++ post ++ news).map En.a).length ((done ++ post ++ news).map En.a) := h.all.2.2.1.2.1
  have h2 : w.ownsRow 0 26 1 wv ((done ++ post ++ news).map En.m).length ((done ++ post ++ news).map En.m) := h.all.2.2.2.2.1.2.1
  rw [List.length_map] at h1 h2
  exact ⟨h.all.1.2.1, h1, h2⟩

theorem SpT.of {w : World} {S : Nat} {ov wv : Value} {us ms : List Value} {cs : List Comp} {es : List En} (h : SpA w S ov wv us ms cs es) (ht : ∀ v ∈ us, Tight v) : SpT w S ov wv cs [] es [] := by
  have hlen : ∀ e ∈ es, e.la.length ≤ 1048576 := fun e he => by
    obtain ⟨ao, n, hv, hn⟩ := ht e.a (by rw [← h.ea]; exact List.mem_map_of_mem he)
    obtain ⟨x, y, hf⟩ := owns_form (h.rowA he).1
    rw [hv] at hf
    simp only [Value.slice.injEq] at hf
    omega
  refine ⟨?_, fun e he => ?_, fun e he => hlen e he, fun e he => ht e.a (by rw [← h.ea]; exact List.mem_map_of_mem he)⟩
  · have ha := h.all
    simp only [List.nil_append, List.append_nil, h.ea, h.em]
    exact ha
  · have he' : e ∈ es := by simpa using he
    exact ⟨(h.ok e he').1, by have := hlen e he'; omega⟩

/-- What stays while a list grows. -/
def restT (S : Nat) (ov wv : Value) (cs : List Comp) (done post news : List En) (e : En) : List Comp :=
  boxC S ov wv :: slC ov ((done ++ (e :: post) ++ news).map En.a) :: slC wv ((done ++ (e :: post) ++ news).map En.m) :: (rows (done ++ news) ++ (rowC e.m e.lm :: (rows post ++ cs)))

theorem SpT.begin {w w1 : World} {S : Nat} {ov wv mv : Value} {cs : List Comp} {done post news : List En} {e : En} (h : SpT w S ov wv cs done (e :: post) news) (hb : Below w.heap.size w w1) (ho : w1.ownsRow w.heap.size 5 1 mv e.lm.length (cellsB e.lm)) : All (rowC e.a e.la :: rowC mv e.lm :: restT S ov wv cs done post news e) w1 := by
  have A := h.all.addRow hb ho
  refine A.perm ?_
  have h1 : rows (e :: post) ++ cs = rowC e.a e.la :: rowC e.m e.lm :: (rows post ++ cs) := by simp [rows]
  rw [h1]
  unfold restT
  generalize rows (done ++ news) = A1
  exact List.perm_middle (a := rowC e.a e.la) (l₁ := rowC mv e.lm :: boxC S ov wv :: slC ov ((done ++ (e :: post) ++ news).map En.a) :: slC wv ((done ++ (e :: post) ++ news).map En.m) :: A1)

theorem closeT {w : World} {S : Nat} {ov wv lv mv : Value} {cs : List Comp} {done post news : List En} {e : En} {ll lm : List UInt8} (h : All (rowC lv ll :: rowC e.a e.la :: rowC mv lm :: restT S ov wv cs done post news e) w) :
    All (boxC S ov wv :: slC ov ((done ++ (e :: post) ++ news).map En.a) :: slC wv ((done ++ (e :: post) ++ news).map En.m) :: (rows ((done ++ [e]) ++ (news ++ [⟨lv, mv, ll, lm⟩])) ++ (rows post ++ cs))) w := by
  refine h.perm ?_
  unfold restT
  have e1 : rows (done ++ news) = rows done ++ rows news := by simp [rows]
  have e2 : rows ((done ++ [e]) ++ (news ++ [(⟨lv, mv, ll, lm⟩ : En)])) ++ (rows post ++ cs) = rows done ++ (rowC e.a e.la :: (rowC e.m e.lm :: (rows news ++ (rowC lv ll :: (rowC mv lm :: (rows post ++ cs)))))) := by simp [rows]
  rw [e1, e2]
  generalize rows done = A
  generalize rows news = N
  generalize rows post ++ cs = T
  generalize boxC S ov wv = b
  generalize slC ov _ = s1
  generalize slC wv _ = s2
  generalize rowC lv ll = c1
  generalize rowC e.a e.la = c2
  generalize rowC mv lm = c3
  generalize rowC e.m e.lm = c4
  have p1 : (b :: s1 :: s2 :: (A ++ (c2 :: (c4 :: (N ++ (c1 :: (c3 :: T))))))).Perm (c1 :: (b :: s1 :: s2 :: (A ++ (c2 :: (c4 :: (N ++ (c3 :: T))))))) := by
    have := List.perm_middle (a := c1) (l₁ := b :: s1 :: s2 :: (A ++ (c2 :: c4 :: N))) (l₂ := c3 :: T)
    simpa [List.append_assoc] using this
  have p2 : (b :: s1 :: s2 :: (A ++ (c2 :: (c4 :: (N ++ (c3 :: T)))))).Perm (c2 :: (b :: s1 :: s2 :: (A ++ (c4 :: (N ++ (c3 :: T)))))) := List.perm_middle (a := c2) (l₁ := b :: s1 :: s2 :: A)
  have p3 : (b :: s1 :: s2 :: (A ++ (c4 :: (N ++ (c3 :: T))))).Perm (c3 :: (b :: s1 :: s2 :: (A ++ (c4 :: (N ++ T))))) := by
    have := List.perm_middle (a := c3) (l₁ := b :: s1 :: s2 :: (A ++ (c4 :: N))) (l₂ := T)
    simpa [List.append_assoc] using this
  have p4 : (A ++ (c4 :: (N ++ T))).Perm ((A ++ N) ++ (c4 :: T)) := by
    rw [List.append_assoc]
    exact List.Perm.append_left A List.perm_middle.symm
  exact ((p1.trans ((p2.trans ((p3.trans ((((p4.cons _).cons _).cons _).cons _)).cons _)).cons _))).symm

theorem SpT.grew {w : World} {S : Nat} {ov wv lv mv : Value} {cs : List Comp} {done post news : List En} {e : En} {ll lm : List UInt8} (h0 : ∀ x ∈ done ++ (e :: post) ++ news, x.la = x.lm ∧ x.la.length ≤ 1048600) (h1 : ∀ x ∈ post, x.la.length ≤ 1048576) (h2 : ∀ x ∈ post, Tight x.a) (hl : ll = lm) (hb : ll.length ≤ 1048600)
    (h : All (boxC S ov wv :: slC ov ((done ++ (e :: post) ++ news).map En.a ++ [lv]) :: slC wv ((done ++ (e :: post) ++ news).map En.m ++ [mv]) :: (rows ((done ++ [e]) ++ (news ++ [⟨lv, mv, ll, lm⟩])) ++ (rows post ++ cs))) w) : SpT w S ov wv cs (done ++ [e]) post (news ++ [⟨lv, mv, ll, lm⟩]) := by
  refine ⟨?_, fun x hx => ?_, h1, h2⟩
  · have e1 : (done ++ [e] ++ post ++ (news ++ [(⟨lv, mv, ll, lm⟩ : En)])).map En.a = (done ++ (e :: post) ++ news).map En.a ++ [lv] := by simp
    have e2 : (done ++ [e] ++ post ++ (news ++ [(⟨lv, mv, ll, lm⟩ : En)])).map En.m = (done ++ (e :: post) ++ news).map En.m ++ [mv] := by simp
    rw [e1, e2]
    exact h
  · have : x ∈ done ++ (e :: post) ++ news ∨ x = ⟨lv, mv, ll, lm⟩ := by
      simp only [List.mem_append, List.mem_cons, List.not_mem_nil, or_false] at hx ⊢
      rcases hx with ((hx | hx) | hx) | (hx | hx) <;> simp [hx]
    rcases this with hx | rfl
    · exact h0 x hx
    · exact ⟨hl, hb⟩

theorem SpT.toA {w : World} {S : Nat} {ov wv : Value} {cs : List Comp} {done news : List En} (h : SpT w S ov wv cs done [] news) : SpA w S ov wv ((done ++ news).map En.a) ((done ++ news).map En.m) cs (done ++ news) := by
  refine ⟨?_, rfl, rfl, fun e he => ?_⟩
  · have := h.all
    simpa [rows] using this
  · have := h.ok e (by simpa using he)
    exact ⟨this.1, by omega⟩

/-- A list that begins to grow, or has grown apart. -/
def GrT (ea : Value) (la : List UInt8) (lv mv : Value) (lm t : List UInt8) (rest : List Comp) (w : World) : Prop :=
  (t = [] ∧ lv = ea ∧ All (rowC ea la :: rowC mv lm :: rest) w) ∨ (All (rowC lv (la ++ t) :: rowC ea la :: rowC mv (lm ++ t) :: rest) w)

theorem GrT.rows {ea lv mv : Value} {la lm t : List UInt8} {rest : List Comp} {w : World} (h : GrT ea la lv mv lm t rest w) : w.ownsRow 0 5 1 lv (la ++ t).length (cellsB (la ++ t)) ∧ w.ownsRow 0 5 1 mv (lm ++ t).length (cellsB (lm ++ t)) := by
  rcases h with ⟨rfl, rfl, hA⟩ | hA
  · rw [List.append_nil, List.append_nil]
    exact ⟨hA.1.2.1, hA.2.2.1.2.1⟩
  · exact ⟨hA.1.2.1, hA.2.2.2.2.1.2.1⟩

set_option maxHeartbeats 6400000 in
set_option maxRecDepth 1000000 in
theorem spoil_tight {w : World} {S : Nat} {ov wv : Value} {us ms : List Value} {cs : List Comp} {es : List En} (h : SpA w S ov wv us ms cs es) (htg : ∀ v ∈ us, Tight v) (hn : es.length ≤ 1048576) :
    Calls Tryd.prog 10 #[.pointer (some ⟨S, 0, none⟩)] w fun e w' => e = .returned (.bool true) ∧ ∃ ov' wv' es2, es2.length = 2 * es.length ∧ SpA w' S ov' wv' (es2.map En.a) (es2.map En.m) cs es2 ∧ ∀ e ∈ es2, e.la.length ≤ 1048600 := by
  have HTG := hid htg
  clear htg
  obtain ⟨ao, c, ao', c', eo, ew⟩ := h.box.forms
  have HC0 := hid (holds_any h.box h.reads (by omega))
  have HA0 := hid h
  have c0 : w.cell? ⟨S, 0, none⟩ = some (.slice ao es.length c) := by rw [cell_at h.box.box, ← eo]; rfl
  have EO := hid eo
  have EW := hid ew
  have hl := h.lens
  clear h eo ew
  go_enter Tryd.func10, Tryd.ntmps10
  go_wp2_with fail
  refine Calls.mono HC0.out ?_
  rintro e0 w00 ⟨rfl, q00, rfl⟩
  have HA := hid (HA0.out.drewN q00)
  clear HC0 HA0
  go_wp2
  go_loopw [4] (fun iv wr => ∃ (i : Nat) (es' : List En), i ≤ es.length ∧ iv = .int .i64 (i : Int) ∧ Hid (SpA wr S ov wv us ms cs es')) (fun iv _ => es.length - (intOf iv).toNat)
  case atStart => exact ⟨0, es, by omega, rfl, HA⟩
  case round =>
    obtain ⟨i, es', hi, rfl, hrel⟩ := hrel
    have hle : es'.length = es.length := by have := hrel.out.lens; omega
    by_cases hlt : i < es.length
    · obtain ⟨e, he⟩ : ∃ e, es'[i]? = some e := ⟨_, List.getElem?_eq_getElem (by omega)⟩
      obtain ⟨aa, ca, ea⟩ := owns_form (hrel.out.rowA (List.mem_of_getElem? he)).1
      have hlen := (hrel.out.ok e (List.mem_of_getElem? he)).2
      have HE := hid he
      have HLE := hid hle
      have EA := hid ea
      clear he hle ea
      go_wp2
      go_loopw [5] (fun kv wr2 => ∃ (k : Nat) (es2 : List En) (e2 : En), k ≤ e.la.length ∧ kv = .int .i64 (k : Int) ∧ Hid (SpA wr2 S ov wv us ms cs es2 ∧ es2[i]? = some e2 ∧ e2.a = e.a ∧ e2.m = e.m ∧ e2.la.length = e.la.length)) (fun kv _ => e.la.length - (intOf kv).toNat)
      case atStart => exact ⟨0, es', e, by omega, rfl, hrel.out, HE.out, rfl, rfl, rfl⟩
      case round =>
        obtain ⟨k, es2, e2, hk, rfl, hrel2⟩ := hrel
        obtain ⟨hsp, hge, hea, hem, hel⟩ := hrel2.out
        have hle2 : es2.length = es.length := by have := hsp.lens; omega
        by_cases hk2 : k < e.la.length
        · obtain ⟨g, cg, g', cg', go, co, gw, cw, ea2, em2, eo2, ew2, q0, q1, q2, q3, ⟨u, q4⟩, ⟨u', q5⟩, q6, q7, d1, d2, d3, hnext⟩ := hsp.round i e2 hge k (by omega)
          obtain ⟨es3, e3, h3⟩ := hnext (UInt8.ofNat (i * 7 + 1))
          rw [← mark_cell i] at h3
          have R3 := hid h3
          rw [eo2] at q0
          rw [ew2] at q1
          rw [ea2] at q2
          rw [em2] at q3
          have HEA := hid hea
          have HEM := hid hem
          have HEL := hid hel
          have hi2 : i < es2.length := by omega
          have hk3 : k < e2.la.length := by omega
          have hlen2 : e2.la.length ≤ 1099511627776 := by omega
          have hi3 : i ≤ 1099511627776 := by omega
          have hk4 : k + 1 ≤ e.la.length := by omega
          clear hsp hge hnext h3 ea2 em2 eo2 ew2 hrel2 hle2 hea hem hel hk2 hlt hi
          go_wp2
          go_roundw
          case rel => exact ⟨k + 1, es3, e3, hk4, by go_num, R3.out.1, R3.out.2.1, R3.out.2.2.1.trans HEA.out, R3.out.2.2.2.1.trans HEM.out, R3.out.2.2.2.2.trans HEL.out⟩
          case measure => simp [intOf]; omega
        · obtain ⟨go, co, gw, cw, eo2, ew2, q2, _⟩ := hsp.box.at i e2 hge
          have q0 : wr.cell? ⟨S, 0, none⟩ = some (.slice (some ⟨go, 0, none⟩) es2.length co) := by rw [cell_at hsp.box.box, ← eo2]; rfl
          rw [hea, EA.out] at q2
          have hi2 : i < es2.length := by omega
          have R2 := hid hsp
          clear hsp hge eo2 ew2 hrel2 hle2 hea hem hel
          go_wp2
          go_roundw
          case rel => exact ⟨i + 1, es2, by omega, by go_num, R2⟩
          case measure => simp [intOf]; omega
    · have R1 := hid hrel.out
      have hbx := hrel.out.box
      have hrd : ∀ x ∈ es', Reads wr x.a x.la ∧ Reads wr x.m x.lm ∧ x.la = x.lm ∧ x.la.length ≤ 140737488355328 := by
        intro x hx
        have := hrel.out.ok x hx
        have hr := hrel.out.rowA hx
        exact ⟨Reads.of_owns hr.1, Reads.of_owns hr.2, this.1, by omega⟩
      have HC := hid (holds_any hbx hrd (by omega))
      clear hbx hrd hrel
      go_wp2_with fail
      refine Calls.mono HC.out ?_
      rintro e w2 ⟨rfl, q, rfl⟩
      have B0 : Hid (SpT (wr.drewN q) S ov wv cs [] es' []) := SpT.of ⟨R1.out.all.kept (F := []) ⟨rfl, rfl, rfl, Nat.le_refl _, fun _ _ _ => rfl⟩ (fun d _ k hk => by cases hk), R1.out.ea, R1.out.em, R1.out.ok⟩ HTG.out
      have HLE := hid hle
      clear HC R1 c0 hle
      obtain ⟨i5, hi5, hz50, hz51, hz52⟩ := info_parts Tryd.info5
      obtain ⟨i37, hi37, hz370, hz371, hz372⟩ := info_parts Tryd.info26
      go_wp2
      go_loopw [6] (fun iv wr => ∃ (i : Nat) (done post news : List En) (ov wv : Value), i ≤ es.length ∧ iv = .int .i64 (i : Int) ∧ Hid (done.length = i ∧ (done ++ post).length = es.length ∧ news.length = i ∧ SpT wr S ov wv cs done post news)) (fun iv _ => es.length - (intOf iv).toNat)
      case atStart => exact ⟨0, [], es', [], ov, wv, by omega, rfl, rfl, by simpa using HLE.out, rfl, B0⟩
      case round =>
        obtain ⟨i, done, post, news, ov2, wv2, hi, rfl, hrel⟩ := hrel
        by_cases hlt : i < es.length
        · obtain ⟨hdl, hpl, hnl, hsp⟩ := hrel.out
          obtain ⟨e, post', rfl⟩ : ∃ e post', post = e :: post' := by
            cases post with
            | nil => simp at hpl; omega
            | cons e p => exact ⟨e, p, rfl⟩
          have hge : (done ++ (e :: post') ++ news)[i]? = some e := by
            rw [List.append_assoc, List.getElem?_append_right (by omega)]
            simp [hdl]
          obtain ⟨go, co, gw, cw, eo2, ew2, q2, q3⟩ := hsp.box.at i e hge
          have q0 : wr.cell? ⟨S, 0, none⟩ = some (.slice (some ⟨go, 0, none⟩) (done ++ (e :: post') ++ news).length co) := by rw [cell_at hsp.box.box, ← eo2]; rfl
          have q1 : wr.cell? ⟨S, 1, none⟩ = some (.slice (some ⟨gw, 0, none⟩) (done ++ (e :: post') ++ news).length cw) := by rw [cell_at hsp.box.box, ← ew2]; rfl
          have hrow : wr.ownsRow 0 5 1 e.a e.la.length (cellsB e.la) ∧ wr.ownsRow 0 5 1 e.m e.lm.length (cellsB e.lm) :=
            ⟨(hsp.all.2.2.2.2.2.2.mem (c := rowC e.a e.la) (by simp [rows])).2.1, (hsp.all.2.2.2.2.2.2.mem (c := rowC e.m e.lm) (by simp [rows])).2.1⟩
          obtain ⟨aa, ca, ea⟩ := owns_form hrow.1
          obtain ⟨am, cm, em⟩ := owns_form hrow.2
          have hok := hsp.ok e (by simp)
          have RM := hid (Reads.of_owns hrow.2)
          rw [em] at RM
          rw [ea] at q2
          rw [em] at q3
          have hil : i < (done ++ (e :: post') ++ news).length := by simp; omega
          have HD := hid hrel.out
          have EA := hid ea
          have hlm := hok.1
          have hbl : e.lm.length ≤ 1048600 := by rw [← hok.1]; exact hok.2
          have hbl2 : e.la.length ≤ 1048600 := hok.2
          have HTE := hid (hsp.tight e (by simp))
          have HLM := hid hlm
          generalize hNN : (done ++ (e :: post') ++ news).length = NN at *
          have hNb : NN ≤ 2199023255552 := by rw [← hNN]; simp; simp at hpl; omega
          have HNN := hid hNN
          clear hdl hpl hnl hsp hge eo2 ew2 hrow hok hrel ea em hlm hNN
          go_wp2_with fail
          refine (lcopied_any RM.out (by omega)).mono ?_
          rintro e0 w2 ⟨v2, rfl, h1, h2⟩
          obtain ⟨x2, y2, hv2⟩ := owns_form h1
          subst hv2
          have A1 := hid (HD.out.2.2.2.begin h2 h1)
          clear h1 h2 q0 q1 q2 q3
          go_wp2
          go_loopw [7, 8, 9] (fun lv mv kv wr => ∃ (k : Nat) (t : List UInt8), k ≤ 12 ∧ kv = .int .i64 (k : Int) ∧ Hid (t.length = k ∧ GrT e.a e.la lv mv e.lm t (restT S ov2 wv2 cs done post' news e) wr)) (fun _ _ kv _ => 12 - (intOf kv).toNat)
          case atStart => exact ⟨0, [], by omega, rfl, rfl, Or.inl ⟨rfl, EA.out.symm, A1.out⟩⟩
          case round =>
            obtain ⟨k, t, hk, rfl, hrel⟩ := hrel
            obtain ⟨htl, hall⟩ := hrel.out
            obtain ⟨La, hLa⟩ : ∃ La, La = e.la ++ t := ⟨_, rfl⟩
            obtain ⟨Lm, hLm⟩ : ∃ Lm, Lm = e.lm ++ t := ⟨_, rfl⟩
            have hrows := hall.rows
            rw [← hLa, ← hLm] at hrows
            have AL := hid hall
            have HTL := hid htl
            have hl8 : wr.ownsRow 0 5 1 u7 La.length (cellsB La) := hrows.1
            have hl9 : wr.ownsRow 0 5 1 u8 Lm.length (cellsB Lm) := hrows.2
            have hb8 : La.length ≤ 2199023255600 := by rw [hLa, List.length_append]; omega
            have hb9 : Lm.length ≤ 2199023255600 := by rw [hLm, List.length_append]; omega
            have HLa := hid hLa
            have HLm := hid hLm
            clear htl hall hrel hLa hLm hrows
            by_cases hk2 : k < 12
            · rcases AL.out with ⟨ht0, hlv, hA0⟩ | hA0
              · -- the first append: there is no room
                subst ht0
                have hk0 : k = 0 := by have := HTL.out; simpa using this.symm
                subst hk0
                obtain ⟨to_, tn, hte, htn⟩ := HTE.out
                rw [hlv, hte] at hl8
                obtain ⟨x8, y8, hf8⟩ := owns_form hl8
                simp only [Value.slice.injEq] at hf8
                have htl2 : tn = La.length := hf8.2.1
                have hAe : All (rowC (.slice to_ tn tn) La :: rowC u8 Lm :: restT S ov2 wv2 cs done post' news e) wr := by
                  have := hA0
                  rw [hte] at this
                  have e1 : La = e.la := by rw [HLa.out, List.append_nil]
                  have e2 : Lm = e.lm := by rw [HLm.out, List.append_nil]
                  rw [e1, e2]; exact this
                have hcells : ∀ b, to_ = some b → ∀ j u, (cellsB La)[j]? = some u → (wr.alloc (.cells #[.int .u8 (((i : Int) * 7 + 2) % 256)] 5)).cell? (b.add j) = some u := by
                  intro b hb j u hu
                  have h1 := Reads.of_owns (hl8.alloc (.cells #[.int .u8 (((i : Int) * 7 + 2) % 256)] 5))
                  subst hb
                  have h2 := h1.some_cells
                  exact h2.2 j u hu
                have hnn : to_ = none → tn = 0 ∧ tn = 0 := by
                  intro hn0
                  subst hn0
                  have h1 := (Reads.of_owns hl8).none_nil
                  omega
                have HAE := hid hAe
                have HTT := hid htl2
                have hlc : (cellsB La).length = tn * 1 := by rw [cellsB_length]; omega
                have hu7 : u7 = .slice to_ tn tn := hlv.trans hte
                have HTEQ := hid hte
                subst hu7
                clear hA0 AL hte hf8 htl2 hl8
                go_wp2_with (at_builtin; refine wpList_append_grows _ rfl (.tmp 88) (.tmp 93) 26 rfl 5 i5 (.int .u8 0) 1 1 Tryd.underlying26 hi5 hz50 hz51 hz52 rfl (by decide) to_ tn tn (cellsB La) rfl hnn hlc hcells ⟨wr.heap.size, 0, none⟩ 1 1 [.int .u8 (((i : Int) * 7 + 2) % 256)] rfl rfl (cell_one_new _ _ _) (fun u hu => by simp at hu; subst hu; rfl) (by omega) (by unfold maxLen; omega) (by omega) ?_)
                intro lv3 w3 hown hgr
                rw [mark2_cell i, HTT.out] at hown
                have A2 := hid (((HAE.out.alloc (.cells #[.int .u8 (((i : Int) * 7 + 2) % 256)] 5)).addRow (l := La ++ [UInt8.ofNat (i * 7 + 2)]) ⟨hgr.os, hgr.tape, hgr.output, hgr.size, fun k hk => hgr.block k hk (by simp)⟩ (by
                  rw [cellsB_append, List.length_append, show (wr.alloc (.cells #[.int .u8 (((i : Int) * 7 + 2) % 256)] 5)).heap.size = wr.heap.size + 1 by simp]
                  exact hown)))
                obtain ⟨x3, y3, hv3⟩ := owns_form hown
                subst hv3
                have hl9b : w3.ownsRow 0 5 1 u8 Lm.length (cellsB Lm) := A2.out.2.2.2.2.1.2.1
                have A2m := hid (A2.out.perm (List.perm_middle (a := rowC u8 Lm) (l₁ := [rowC (.slice x3 (La.length + 1) y3) (La ++ [UInt8.ofNat (i * 7 + 2)]), rowC (.slice to_ tn tn) La])))
                clear hown hgr hl9 A2 HAE
                go_wp2_with (at_builtin; refine wpList_append_two _ rfl (.tmp 95) (.tmp 100) 26 rfl 5 i5 (.int .u8 0) 1 1 Tryd.underlying26 hi5 hz50 hz51 hz52 rfl (by decide) _ _ _ rfl (hl9b.alloc _) ⟨w3.heap.size, 0, none⟩ 1 1 [.int .u8 (((i : Int) * 7 + 2) % 256)] rfl rfl (cell_one_new _ _ _) (fun u hu => by simp at hu; subst hu; rfl) (by omega) (by unfold maxLen; omega) (by omega) ?_)
                intro g2 cap2 w4 hown hgr hat
                rw [mark2_cell i] at hown
                have A3 := hid (((A2m.out.alloc (.cells #[.int .u8 (((i : Int) * 7 + 2) % 256)] 5)).row_append hown hgr (by simpa using hat)))
                clear hown hgr hat hl9b A2m
                go_wp2
                go_roundw
                case rel =>
                  refine ⟨1, [UInt8.ofNat (i * 7 + 2)], by omega, by go_num, rfl, Or.inr ?_⟩
                  have e1 : La = e.la := by rw [HLa.out, List.append_nil]
                  have e2 : Lm = e.lm := by rw [HLm.out, List.append_nil]
                  have h9 := A3.out.perm (List.perm_middle (a := rowC (.slice (some ⟨g2, 0, none⟩) (Lm.length + 1) cap2) (Lm ++ [UInt8.ofNat (i * 7 + 2)])) (l₁ := [rowC (.slice x3 (La.length + 1) y3) (La ++ [UInt8.ofNat (i * 7 + 2)]), rowC (.slice to_ tn tn) La])).symm
                  rw [e1, e2, ← HTEQ.out] at h9
                  rw [e1, e2]
                  exact h9
                case measure => simp [intOf]
              · have hA1 : All (rowC u7 La :: rowC e.a e.la :: rowC u8 Lm :: restT S ov2 wv2 cs done post' news e) wr := by rw [HLa.out, HLm.out]; exact hA0
                have ALL := hid hA1
                clear hA0 hA1 AL
                go_wp2_with (at_builtin; refine wpList_append_two _ rfl (.tmp 88) (.tmp 93) 26 rfl 5 i5 (.int .u8 0) 1 1 Tryd.underlying26 hi5 hz50 hz51 hz52 rfl (by decide) _ _ _ rfl (hl8.alloc _) ⟨wr.heap.size, 0, none⟩ 1 1 [.int .u8 (((i : Int) * 7 + 2) % 256)] rfl rfl (cell_one_new _ _ _) (fun u hu => by simp at hu; subst hu; rfl) (by omega) (by unfold maxLen; omega) (by omega) ?_)
                intro g1 cap1 w3 hown hgr hat
                rw [mark2_cell i] at hown
                have A2 := hid (((ALL.out.alloc (.cells #[.int .u8 (((i : Int) * 7 + 2) % 256)] 5)).row_append hown hgr (by simpa using hat)))
                have hl9b : w3.ownsRow 0 5 1 u8 Lm.length (cellsB Lm) := A2.out.2.2.2.2.1.2.1
                have A2m := hid (A2.out.perm (List.perm_middle (a := rowC u8 Lm) (l₁ := [rowC (.slice (some ⟨g1, 0, none⟩) (La.length + 1) cap1) (La ++ [UInt8.ofNat (i * 7 + 2)]), rowC e.a e.la])))
                clear hown hgr hat hl8 hl9 ALL A2
                go_wp2_with (at_builtin; refine wpList_append_two _ rfl (.tmp 95) (.tmp 100) 26 rfl 5 i5 (.int .u8 0) 1 1 Tryd.underlying26 hi5 hz50 hz51 hz52 rfl (by decide) _ _ _ rfl (hl9b.alloc _) ⟨w3.heap.size, 0, none⟩ 1 1 [.int .u8 (((i : Int) * 7 + 2) % 256)] rfl rfl (cell_one_new _ _ _) (fun u hu => by simp at hu; subst hu; rfl) (by omega) (by unfold maxLen; omega) (by omega) ?_)
                intro g2 cap2 w4 hown hgr hat
                rw [mark2_cell i] at hown
                have A3 := hid (((A2m.out.alloc (.cells #[.int .u8 (((i : Int) * 7 + 2) % 256)] 5)).row_append hown hgr (by simpa using hat)))
                clear hown hgr hat hl9b A2m
                go_wp2
                go_roundw
                case rel =>
                  refine ⟨k + 1, t ++ [UInt8.ofNat (i * 7 + 2)], by omega, by go_num, by rw [List.length_append, HTL.out]; rfl, Or.inr ?_⟩
                  have h9 := A3.out.perm (List.perm_middle (a := rowC (.slice (some ⟨g2, 0, none⟩) (Lm.length + 1) cap2) (Lm ++ [UInt8.ofNat (i * 7 + 2)])) (l₁ := [rowC (.slice (some ⟨g1, 0, none⟩) (La.length + 1) cap1) (La ++ [UInt8.ofNat (i * 7 + 2)]), rowC e.a e.la])).symm
                  rw [← List.append_assoc, ← List.append_assoc, ← HLa.out, ← HLm.out]
                  exact h9
                case measure => simp [intOf]; omega
            · obtain ⟨a8, c8, e8⟩ := owns_form hl8
              obtain ⟨a9, c9, e9⟩ := owns_form hl9
              subst e8 e9
              have R0 := closeT (show All (rowC _ La :: rowC e.a e.la :: rowC _ Lm :: restT S ov2 wv2 cs done post' news e) wr from by
                rcases AL.out with ⟨ht0, _, _⟩ | hA0
                · exfalso
                  have := HTL.out
                  rw [ht0] at this
                  simp at this
                  omega
                · rw [HLa.out, HLm.out]; exact hA0)
              obtain ⟨U, hU⟩ : ∃ U, U = (done ++ (e :: post') ++ news).map En.a := ⟨_, rfl⟩
              obtain ⟨M, hM⟩ : ∃ M, M = (done ++ (e :: post') ++ news).map En.m := ⟨_, rfl⟩
              have hUl : U.length = NN := by rw [hU, List.length_map, HNN.out]
              have hMl : M.length = NN := by rw [hM, List.length_map, HNN.out]
              rw [← hU, ← hM] at R0
              have R := hid R0
              have horow : wr.ownsRow 0 26 1 ov2 U.length U := R0.2.2.1.2.1
              have hwrow : wr.ownsRow 0 26 1 wv2 M.length M := R0.2.2.2.2.1.2.1
              obtain ⟨ao2, co2, eo2⟩ := owns_form horow
              obtain ⟨aw2, cw2, ew2⟩ := owns_form hwrow
              have hb0 : wr.heap[S]? = some (.cells #[ov2, wv2] 31 (0, 0)) := R0.1.2.1
              rw [eo2, ew2] at hb0
              have c0 : wr.cell? ⟨S, 0, none⟩ = some (.slice ao2 U.length co2) := by rw [cell_at hb0]; rfl
              rw [eo2] at horow
              rw [eo2, ew2] at R
              have HU := hid hU
              have HM := hid hM
              have hk12 : k = 12 := by omega
              have hbU : U.length ≤ 2199023255552 := by omega
              have hbM : M.length ≤ 2199023255552 := by omega
              clear R0 hU hM hUl hMl hwrow eo2 ew2 hb0 hl8 hl9 AL A1 RM
              go_wp2_with (at_builtin; refine wpList_append_own_at _ rfl (.tmp 106) (.tmp 108) 29 rfl 0 26 i37 (.slice none 0 0) 1 24 Tryd.underlying29 hi37 hz370 hz371 hz372 rfl (by decide) _ _ _ rfl (horow.alloc _) ⟨wr.heap.size, 0, none⟩ 1 1 [.slice a8 La.length c8] rfl rfl (cell_one_new _ _ _) (fun u hu => by simp at hu; subst hu; rfl) (by unfold maxLen; omega) (by omega) (by omega) ?_)
              intro ov' w1 hown hgr hnil hat
              have A1 := hid (((R.out.alloc (.cells #[.slice a8 La.length c8] 26)).swap).sl_append hown hgr (by simpa using hat)).swap
              obtain ⟨ao', c', eo⟩ := owns_form hown
              subst eo
              clear hown hgr hnil hat horow R
              have hb1 := A1.out.1.2.1
              have d0 : w1.cell? ⟨S, 0, none⟩ = some (.slice ao2 U.length co2) := by rw [cell_at hb1]; rfl
              have d1 : w1.cell? ⟨S, 1, none⟩ = some (.slice aw2 M.length cw2) := by rw [cell_at hb1]; rfl
              have f0 : w1.frozen? ⟨S, 0, none⟩ = false := free_at hb1 0
              have A2 := hid (A1.out.box_set0 (u := .slice ao' (U.length + 1) c'))
              have hwrow : (w1.setCell ⟨S, 0, none⟩ (.slice ao' (U.length + 1) c')).ownsRow 0 26 1 (.slice aw2 M.length cw2) M.length M := A2.out.2.2.2.2.1.2.1
              have hnew := cell_one_new (w1.setCell ⟨S, 0, none⟩ (.slice ao' (U.length + 1) c')) (.slice a9 Lm.length c9) 26
              rw [World.size_setCell] at hnew
              have HNEW := hid hnew
              have HWR := hid hwrow
              clear hb1 c0 A1 hnew hwrow
              go_wp2_with (at_builtin; refine wpList_append_own_at _ rfl (.tmp 116) (.tmp 118) 29 rfl 0 26 i37 (.slice none 0 0) 1 24 Tryd.underlying29 hi37 hz370 hz371 hz372 rfl (by decide) _ _ _ rfl (HWR.out.alloc _) ⟨w1.heap.size, 0, none⟩ 1 1 [.slice a9 Lm.length c9] rfl rfl HNEW.out (fun u hu => by simp at hu; subst hu; rfl) (by unfold maxLen; omega) (by omega) (by omega) ?_)
              intro wv' w3 hown hgr hnil hat
              have A3 := hid ((A2.out.alloc (.cells #[.slice a9 Lm.length c9] 26)).sl_append2 hown hgr (by simpa using hat))
              obtain ⟨aw', cw', ew⟩ := owns_form hown
              subst ew
              clear hown hgr hnil hat HWR HNEW A2
              have hb3 := A3.out.1.2.1
              have d1 : w3.cell? ⟨S, 1, none⟩ = some (.slice aw2 M.length cw2) := by rw [cell_at hb3]; rfl
              have f1 : w3.frozen? ⟨S, 1, none⟩ = false := free_at hb3 1
              have A4 := hid (A3.out.box_set1 (u := .slice aw' (M.length + 1) cw'))
              clear hb3 A3 d0
              go_wp2
              go_roundw
              case rel =>
                have hU := HU.out
                have hM := HM.out
                clear HU HM
                subst hU hM
                obtain ⟨hd1, hd2, hd3, hd4⟩ := HD.out
                have hp := hd4.okp e (by simp)
                have htk := HTL.out
                refine ⟨i + 1, done ++ [e], post', news ++ [⟨_, _, La, Lm⟩], _, _, by omega, by go_num, by simp [hd1], by simpa using hd2, by simp [hd3], SpT.grew hd4.ok (fun x hx => hd4.okp x (by simp [hx])) (fun x hx => hd4.tight x (by simp [hx])) (by rw [HLa.out, HLm.out, HLM.out]) (by rw [HLa.out, List.length_append]; omega) A4.out⟩
              case measure => simp [intOf]; omega
        · obtain ⟨hdl, hpl, hnl, hsp⟩ := hrel.out
          have hpost : post = [] := by
            rw [List.length_append] at hpl
            exact List.eq_nil_of_length_eq_zero (by omega)
          subst hpost
          have hbx := hsp.box
          have HAA := hid hsp.toA
          have HBB := hid (show ∀ e ∈ done ++ news, e.la.length ≤ 1048600 from fun e he => (hsp.ok e (by simpa using he)).2)
          have HC := hid (holds_any (by have := hsp.box; simpa using this) HAA.out.reads (by simp; omega))
          have HL := hid (show (done ++ news).length = 2 * es.length from by simp at hpl ⊢; omega)
          clear hbx hsp hpl hdl hnl hrel
          go_wp2_with fail
          refine Calls.mono HC.out ?_
          rintro e w2 ⟨rfl, q, rfl⟩
          have HF := hid (HAA.out.drewN q)
          clear HC HAA
          go_wp2
          go_ret
          exact ⟨rfl, _, _, _, HL.out, HF.out, HBB.out⟩

end Go.Proofs.YthnccpbgccmapabDoor

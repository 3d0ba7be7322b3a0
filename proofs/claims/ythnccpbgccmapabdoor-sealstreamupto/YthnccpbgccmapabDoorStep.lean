import Derived.Test.YthnccpbgccmapabDoorLast
namespace Go.Proofs.YthnccpbgccmapabDoor
open Go.RowKit
set_option linter.unusedVariables false
attribute [local go_sem ↓] Go.wp_at_zero Go.wp_at_succ

theorem step_append_bytes {w : World} {ops : Array Oper} {o : Oper} {a : Act} {K : Act → World → Prop} {Q : Exit → Act → World → Prop} {E : Prop} (hgd : o.guard = none) (s x : Operand)
    (ho : o.op = .call { callee := .builtin .append, args := #[s, x], argTypes := #[26, 26] })
    (v : Value) (xs l : List UInt8) (sv : Value) (hs : a.eval s = v) (hx : a.eval x = sv) (hown : w.ownsRow 0 5 1 v xs.length (cellsB xs)) (hr : Reads w sv l) (hb : xs.length + l.length ≤ 1048576)
    (h : ∀ ao cap w', w'.ownsRow 0 5 1 (.slice ao (xs ++ l).length cap) (xs ++ l).length (cellsB (xs ++ l)) → w.grownBy w' v.ownBlock → ((Value.slice ao (xs ++ l).length cap).ownBlock = v.ownBlock ∨ (Value.slice ao (xs ++ l).length cap).ownBlock = some w.heap.size) → K (a.put o.dst (.slice ao (xs ++ l).length cap)) w') :
    if Region.wanted o (yielded ops a.tmps) = true then Oper.wp Tryd.prog o a w K Q else E := by
  have hw : Region.wanted o (yielded ops a.tmps) = true := by simp [Region.wanted, hgd]
  rw [if_pos hw]
  obtain ⟨i0, hi, hz0, hz1, hz2⟩ := info_parts Tryd.info5
  obtain ⟨ao, c, hf⟩ := hr.form
  subst hf
  cases ao with
  | none =>
    obtain ⟨rfl, rfl, _⟩ := hr.none_nil
    have hrun := run_append_owned_none (P := Tryd.prog) (w := w) 0 26 o.type 5 i0 1 Tryd.underlying26 hi v xs.length (cellsB xs) hown
    obtain ⟨vo, vc, hv⟩ := owns_form hown
    unfold Oper.wp
    simp only [execOp, ho, resolve, invoke, builtin, Sem.run_bind, Sem.run_pure, Result.andThen_ok, List.map_toArray, List.map_cons, List.map_nil, hs, hx, List.length_nil, hrun]
    have := h vo vc w (by rw [List.append_nil, ← hv]; exact hown) ⟨rfl, rfl, rfl, Nat.le_refl _, fun _ _ _ => rfl⟩ (Or.inl (by rw [List.append_nil, ← hv]))
    rw [List.append_nil, ← hv] at this
    exact this
  | some ad =>
    obtain ⟨_, hcell⟩ := hr.some_cells
    obtain ⟨v', w', hrun, h2, h3, h4, h5⟩ := run_append_own_at (P := Tryd.prog) w 0 26 o.type 5 i0 (.int .u8 0) 1 1 Tryd.underlying26 hi hz0 hz1 hz2 rfl (by decide) v xs.length (cellsB xs) hown ad l.length c (cellsB l) (by rw [cellsB_length]; omega) hcell (cellsB_one _) (by unfold maxLen; omega) (by omega) (by omega)
    obtain ⟨vo, vc, hv⟩ := owns_form h2
    subst hv
    unfold Oper.wp
    simp only [execOp, ho, resolve, invoke, builtin, Sem.run_bind, Sem.run_pure, Result.andThen_ok, List.map_toArray, List.map_cons, List.map_nil, hs, hx, hrun]
    have := h vo vc w' (by rw [List.length_append, cellsB_append]; exact h2) h3 (by rw [List.length_append]; exact h5)
    rw [List.length_append] at this
    exact this

/-- A step of a script, laid by. -/
def opC (X : Nat) (sec : Bool) (kind : Int) (bv : Value) : Comp := ⟨fun w => w.heap[X]? = some (.cells #[.bool sec, .int .i64 kind, bv] 33 (0, 0)), [X]⟩
theorem opC_good (X : Nat) (sec : Bool) (kind : Int) (bv : Value) : (opC X sec kind bv).Good := fun w w' h _ hb => (hb X (by simp [opC])).trans h

theorem Nx.box {P D S : Nat} {fed : List UInt8} {told : Nat} {es : List En} {tg : Bool} {cs : List Comp} {fv ov wv : Value} {w : World} (h : Nx P D S fed told es tg cs fv ov wv w) (sec : Bool) (kind : Int) (bv : Value) : Nx P D S fed told es tg (opC w.heap.size sec kind bv :: cs) fv ov wv (w.alloc (.cells #[.bool sec, .int .i64 kind, bv] 33)) := by
  obtain ⟨v, hv, hA⟩ := h.str
  refine ⟨⟨v, hv, ?_⟩, h.le, h.len, h.sh⟩
  have h1 : All (opC w.heap.size sec kind bv :: (strC P (fin fed).2.2 ((fin fed).1.drop told) (fin fed).2.1 v ++ (bsL D S fv ov wv fed told es ++ cs))) (w.alloc (.cells #[.bool sec, .int .i64 kind, bv] 33)) := by
    refine hA.add (Fr.below (ba w _)) (opC_good _ _ _ _) (heap_alloc_new w _) (fun k hk => ?_)
    have : k = w.heap.size := by simpa [opC] using hk
    subst this
    exact ⟨Nat.le_refl _, by simp⟩
  exact h1.perm (front_in (Z := [opC w.heap.size sec kind bv]))

theorem Nx.unbox {P D S : Nat} {fed : List UInt8} {told : Nat} {es : List En} {tg : Bool} {c : Comp} {cs : List Comp} {fv ov wv : Value} {w : World} (h : Nx P D S fed told es tg (c :: cs) fv ov wv w) : Nx P D S fed told es tg cs fv ov wv w := by
  obtain ⟨v, hv, hA⟩ := h.str
  refine ⟨⟨v, hv, ?_⟩, h.le, h.len, h.sh⟩
  have h1 := hA
  rw [← List.append_assoc] at h1 ⊢
  exact All.mid h1

theorem Nx.op {P D S X : Nat} {fed : List UInt8} {told : Nat} {es : List En} {tg sec : Bool} {kind : Int} {bv : Value} {cs : List Comp} {fv ov wv : Value} {w : World} (h : Nx P D S fed told es tg (opC X sec kind bv :: cs) fv ov wv w) : w.heap[X]? = some (.cells #[.bool sec, .int .i64 kind, bv] 33 (0, 0)) := h.str.mem (c := opC X sec kind bv) (by simp)

/-- What a step leaves. -/
def StepR (P D S : Nat) (fed b : List UInt8) (es : List En) (cs : List Comp) (e : Ending) (w' : World) : Prop :=
  e = .returned (.bool true) ∧ ∃ fed' told' es' fv' ov' wv', fed'.length ≤ fed.length + b.length ∧ es'.length ≤ es.length + 1 ∧ Nx P D S fed' told' es' true cs fv' ov' wv' w'

theorem held_le (b : List UInt8) : (fin b).2.2.length ≤ 65548 := by
  obtain ⟨s, hs⟩ := fin_held b
  have h1 := scan_more hs
  have h2 := scan_ok Lk.init_ok hs
  have h3 := h2.more
  have h4 := h2.size
  simp [Lk.init] at h1
  omega

set_option maxHeartbeats 6400000 in
set_option maxRecDepth 1000000 in
theorem step_ask {P D S : Nat} {fed b : List UInt8} {told : Nat} {es : List En} {cs : List Comp} {fv ov wv bv : Value} {sec : Bool} {kind : Int} {w : World} (h : Nx P D S fed told es true cs fv ov wv w) (hs : es.length < 8388608) (hk0 : kind ≠ 0) (hk4 : kind ≠ 4) :
    Calls Tryd.prog 8 #[.pointer (some ⟨P, 0, none⟩), .pointer (some ⟨D, 0, none⟩), .pointer (some ⟨S, 0, none⟩), .agg #[.bool sec, .int .i64 kind, bv]] w (StepR P D S fed b es cs) := by
  have N1 := hid (h.box sec kind bv)
  have hX := N1.out.op
  have x1 : (w.alloc (.cells #[.bool sec, .int .i64 kind, bv] 33)).cell? ⟨w.heap.size, 1, none⟩ = some (.int .i64 kind) := by rw [cell_at hX]; rfl
  clear h hX
  have k0 : (kind == 0) = false := by simpa using hk0
  have k4 : (kind == 4) = false := by simpa using hk4
  by_cases hk1 : kind = 1
  · subst hk1
    have HN := hid (next_any N1.out hs)
    clear hk0 hk4 k0 k4
    go_enter Tryd.func8, Tryd.ntmps8
    go_wp2_with fail
    refine HN.out.mono ?_
    rintro e w2 ⟨rfl, t2, es2, ov2, wv2, _, _, h3, hN2⟩
    have N2 := hid hN2.unbox
    clear hN2
    go_wp2
    go_ret
    exact ⟨rfl, fed, t2, es2, fv, ov2, wv2, by omega, h3, N2.out⟩
  · have k1 : (kind == 1) = false := by simpa using hk1
    by_cases hk2 : kind = 2
    · subst hk2
      clear hk0 hk4 k0 k4 hk1 k1
      obtain ⟨hfed, hbk⟩ := N1.out.fed
      obtain ⟨fa, fc, hfe⟩ := owns_form hfed
      subst hfe
      have c0 : (w.alloc (.cells #[.bool sec, .int .i64 2, bv] 33)).cell? ⟨D, 0, none⟩ = some (.slice fa fed.length fc) := by rw [cell_at hbk]; rfl
      obtain ⟨v, hv, hA⟩ := N1.out.str
      have HV := hid hv
      have hlen := N1.out.len
      have HF := hid (Found_c (Reads.of_owns hfed) hlen hA)
      clear hv hA hfed hbk
      go_enter Tryd.func8, Tryd.ntmps8
      go_wp2_with fail
      refine HF.out.mono ?_
      rintro e w2 ⟨v7, us, rfl, hul, hA2⟩
      have N2 := hid (show Nx P D S fed told es true (opC w.heap.size sec 2 bv :: cs) (.slice fa fed.length fc) ov wv w2 from ⟨Str.drops (ys := slC v7 us :: rowsP us (fin fed).1) ⟨v, HV.out, hA2.perm (front2 (Z := slC v7 us :: rowsP us (fin fed).1))⟩, N1.out.le, hlen, N1.out.sh⟩)
      clear hA2 HF HV c0 hul N1
      go_wp2_with fail
      refine N2.out.str.lost.mono ?_
      rintro e w3 ⟨rfl, q3, hq3⟩
      have N3 := hid (show Nx P D S fed told es true cs (.slice fa fed.length fc) ov wv w3 from (show Nx P D S fed told es true (opC w.heap.size sec 2 bv :: cs) (.slice fa fed.length fc) ov wv w3 from ⟨hq3 ▸ N2.out.str.drewN q3, N2.out.le, N2.out.len, N2.out.sh⟩).unbox)
      clear hq3 N2
      go_wp2
      go_ret
      exact ⟨rfl, fed, told, es, _, ov, wv, by omega, by omega, N3.out⟩
    · have k2 : (kind == 2) = false := by simpa using hk2
      by_cases hk3 : kind = 3
      · subst hk3
        clear hk0 hk4 k0 k4 hk1 k1 hk2 k2
        obtain ⟨hfed, hbk⟩ := N1.out.fed
        obtain ⟨fa, fc, hfe⟩ := owns_form hfed
        subst hfe
        have c0 : (w.alloc (.cells #[.bool sec, .int .i64 3, bv] 33)).cell? ⟨D, 0, none⟩ = some (.slice fa fed.length fc) := by rw [cell_at hbk]; rfl
        obtain ⟨v, hv, hA⟩ := N1.out.str
        have HV := hid hv
        have hlen := N1.out.len
        have HF := hid (Found_c (Reads.of_owns hfed) hlen hA)
        clear hv hA hfed hbk
        go_enter Tryd.func8, Tryd.ntmps8
        go_wp2_with fail
        refine HF.out.mono ?_
        rintro e w2 ⟨v7, us, rfl, hul, hA2⟩
        have N2 := hid (show Nx P D S fed told es true (opC w.heap.size sec 3 bv :: cs) (.slice fa fed.length fc) ov wv w2 from ⟨Str.drops (ys := slC v7 us :: rowsP us (fin fed).1) ⟨v, HV.out, hA2.perm (front2 (Z := slC v7 us :: rowsP us (fin fed).1))⟩, N1.out.le, hlen, N1.out.sh⟩)
        clear hA2 HF HV c0 hul N1
        have hhl := held_le fed
        have hdec : decide (((fin fed).2.2.length : Int) ≤ 65548) = true := decide_eq_true (by omega)
        go_wp2_with fail
        refine N2.out.str.held.mono ?_
        rintro e w3 ⟨rfl, q3, hq3⟩
        have N3 := hid (show Nx P D S fed told es true cs (.slice fa fed.length fc) ov wv w3 from (show Nx P D S fed told es true (opC w.heap.size sec 3 bv :: cs) (.slice fa fed.length fc) ov wv w3 from ⟨hq3 ▸ N2.out.str.drewN q3, N2.out.le, N2.out.len, N2.out.sh⟩).unbox)
        clear hq3 N2
        go_wp2
        go_ret
        exact ⟨rfl, fed, told, es, _, ov, wv, by omega, by omega, N3.out⟩
      · have k3 : (kind == 3) = false := by simpa using hk3
        go_enter Tryd.func8, Tryd.ntmps8
        go_wp2
        go_ret
        exact ⟨rfl, fed, told, es, fv, ov, wv, by omega, by omega, N1.out.unbox⟩

/-- The shelf of a stream that is asked, as spoil wants it. -/
theorem Nx.shelf {P D S : Nat} {fed : List UInt8} {told : Nat} {es : List En} {tg : Bool} {cs : List Comp} {fv ov wv : Value} {w : World} (h : Nx P D S fed told es tg cs fv ov wv w) : ∃ v, SvOk (fin fed).2.2 ((fin fed).1.drop told) v ∧ SpA w S ov wv (es.map En.a) (es.map En.m) (strC P (fin fed).2.2 ((fin fed).1.drop told) (fin fed).2.1 v ++ ([bookC D fv told, rowC fv fed] ++ cs)) es := by
  obtain ⟨v, hv, hA⟩ := h.str
  refine ⟨v, hv, ?_, rfl, rfl, fun e he => ⟨(h.sh.ok e he).1, by have := (h.sh.ok e he).2; omega⟩⟩
  refine hA.perm ?_
  show (strC P _ _ _ v ++ ([bookC D fv told, rowC fv fed] ++ (shelfL S ov wv es ++ cs))).Perm (shelfL S ov wv es ++ (strC P _ _ _ v ++ ([bookC D fv told, rowC fv fed] ++ cs)))
  exact front_in.symm

theorem Nx.ofShelf {P D S : Nat} {fed : List UInt8} {told : Nat} {es : List En} {tg : Bool} {cs : List Comp} {fv ov wv : Value} {v : Sv} {w : World} (hv : SvOk (fin fed).2.2 ((fin fed).1.drop told) v) (h : All (shelfL S ov wv es ++ (strC P (fin fed).2.2 ((fin fed).1.drop told) (fin fed).2.1 v ++ ([bookC D fv told, rowC fv fed] ++ cs))) w) (hle : told ≤ (fin fed).1.length) (hlen : fed.length ≤ 1048576) (hsh : ShOk tg es) : Nx P D S fed told es tg cs fv ov wv w :=
  ⟨⟨v, hv, h.perm front_in⟩, hle, hlen, hsh⟩

set_option maxHeartbeats 6400000 in
set_option maxRecDepth 1000000 in
theorem step_spoil {P D S : Nat} {fed b : List UInt8} {told : Nat} {es : List En} {cs : List Comp} {fv ov wv bv : Value} {sec : Bool} {w : World} (h : Nx P D S fed told es true cs fv ov wv w) :
    Calls Tryd.prog 8 #[.pointer (some ⟨P, 0, none⟩), .pointer (some ⟨D, 0, none⟩), .pointer (some ⟨S, 0, none⟩), .agg #[.bool sec, .int .i64 4, bv]] w (StepR P D S fed b es cs) := by
  have N1 := hid (h.box sec 4 bv)
  have hX := N1.out.op
  have x1 : (w.alloc (.cells #[.bool sec, .int .i64 4, bv] 33)).cell? ⟨w.heap.size, 1, none⟩ = some (.int .i64 4) := by rw [cell_at hX]; rfl
  obtain ⟨v, hv, hsp⟩ := N1.out.shelf
  have HV := hid hv
  have hsm := N1.out.sh.small
  have HS := hid (spoil_any hsp (by omega))
  clear h hX hv hsp
  go_enter Tryd.func8, Tryd.ntmps8
  go_wp2_with fail
  refine HS.out.mono ?_
  rintro e w2 ⟨rfl, ov2, wv2, es2, hl2, hE⟩
  have hb2 : w2.heap[S]? = some (.cells #[ov2, wv2] 31 (0, 0)) := hE.all.1.2.1
  have s0 : w2.cell? ⟨S, 0, none⟩ = some ov2 := by rw [cell_at hb2]; rfl
  have f0 : w2.frozen? ⟨S, 0, none⟩ = false := free_at hb2 0
  have A2 := hid (hE.all.box_set0 (u := .slice none 0 0))
  have hb3 : (w2.setCell ⟨S, 0, none⟩ (.slice none 0 0)).heap[S]? = some (.cells #[.slice none 0 0, wv2] 31 (0, 0)) := A2.out.1.2.1
  have s1 : (w2.setCell ⟨S, 0, none⟩ (.slice none 0 0)).cell? ⟨S, 1, none⟩ = some wv2 := by rw [cell_at hb3]; rfl
  have f1 : (w2.setCell ⟨S, 0, none⟩ (.slice none 0 0)).frozen? ⟨S, 1, none⟩ = false := free_at hb3 1
  have A3 := hid (A2.out.box_set1 (u := .slice none 0 0))
  have N3 : Hid (Nx P D S fed told [] true cs fv (.slice none 0 0) (.slice none 0 0) ((w2.setCell ⟨S, 0, none⟩ (.slice none 0 0)).setCell ⟨S, 1, none⟩ (.slice none 0 0))) := by
    refine (Nx.ofShelf (cs := opC w.heap.size sec 4 bv :: cs) HV.out ?_ N1.out.le N1.out.len ⟨fun e he => (by cases he), fun _ e he => (by cases he), by simp⟩).unbox
    have h1 := A3.out
    obtain ⟨b1, b2, _, _, _, _, _, _, rest⟩ := h1
    have hrest : ∀ d ∈ (strC P (fin fed).2.2 ((fin fed).1.drop told) (fin fed).2.1 v ++ ([bookC D fv told, rowC fv fed] ++ (opC w.heap.size sec 4 bv :: cs))), Disj (boxC S (.slice none 0 0) (.slice none 0 0)).fp d.fp := fun d hd => b2 d (by simp only [List.mem_cons]; right; right; right; exact hd)
    refine ⟨b1, fun d hd => ?_, ⟨slC_good _ _, ⟨by simp, Or.inl ⟨rfl, rfl⟩⟩, fun k hk => by simp [slC, Value.ownBlock] at hk⟩, fun d hd k hk => by simp [slC, Value.ownBlock] at hk, ⟨slC_good _ _, ⟨by simp, Or.inl ⟨rfl, rfl⟩⟩, fun k hk => by simp [slC, Value.ownBlock] at hk⟩, fun d hd k hk => by simp [slC, Value.ownBlock] at hk, by simpa [rows] using rest⟩
    have hd2 : d = slC (.slice none 0 0) [] ∨ d ∈ (strC P (fin fed).2.2 ((fin fed).1.drop told) (fin fed).2.1 v ++ ([bookC D fv told, rowC fv fed] ++ (opC w.heap.size sec 4 bv :: cs))) := by
      rcases List.mem_cons.1 hd with e | hd
      · exact Or.inl e
      · rcases List.mem_cons.1 hd with e | hd
        · exact Or.inl e
        · exact Or.inr hd
    rcases hd2 with e | hd
    · subst e
      intro k hk hk2; simp [slC, Value.ownBlock] at hk2
    · exact hrest d hd
  clear hE hb2 hb3 A2 A3 HS N1 HV
  go_wp2
  go_ret
  exact ⟨rfl, fed, told, [], fv, _, _, by omega, by simp, N3.out⟩
end Go.Proofs.YthnccpbgccmapabDoor

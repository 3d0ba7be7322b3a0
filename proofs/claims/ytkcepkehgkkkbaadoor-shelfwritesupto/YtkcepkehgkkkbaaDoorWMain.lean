import Derived.Test.YtkcepkehgkkkbaaDoorWLaw
namespace Go.Proofs.YtkcepkehgkkkbaaDoor
open Go.RowKit
set_option linter.unusedVariables false

theorem xdoneW {b : Nat} {v : Value} {bs : List UInt8} {cs : List Comp} {w : World} (h : All (xwC b v (some bs) :: cs) w) (hlen : bs.length ≤ 140737488355328) : Calls Tryd.prog 23 #[.pointer (some ⟨b, 0, none⟩)] w fun e w' => ∃ so sc, e = .returned (.tuple #[.slice so bs.length sc, .int .i64 0]) ∧ All (ownC 5 (.slice so bs.length sc) (cellsB bs) :: xwC b v (some bs) :: cs) w' :=
  (xdone_whole h.1.2.1 hlen).mono fun e w' ⟨s', h1, h2, h3⟩ => by
    obtain ⟨so, sc, rfl⟩ := owns_form h2
    exact ⟨so, sc, h1, h.addOwn h3 (by rw [cellsB_length]; exact h2)⟩

/-- Both writers, as they are behind so many entries. -/
abbrev both (B D : Nat) (w : World) (st : Option (List UInt8)) (wr : World) : Prop := ∃ vw vx, All [wrC B vw st, xwC D vx st, inC w] wr

abbrev sBeh : ByteArray := ⟨#[98, 101, 104, 105, 110, 100]⟩

/-- The texts ahead of the last one. -/
theorem txts_front {a : Option Addr} {n c : Nat} {l : List ByteArray} {t : ByteArray} {cs : List Comp} {w : World} (h : All cs w) (hm : ownC 9 (.slice a n c) (txtV (l ++ [t])) ∈ cs) : Txts w (.slice a l.length c) l ∧ ∃ g, a = some ⟨g, 0, none⟩ ∧ g < w.heap.size ∧ w.cell? ⟨g, l.length, none⟩ = some (.string t) := by
  have hx := txts_of (e := 9) h hm
  obtain ⟨ao, c', e, hc, hcase⟩ := hx
  simp only [Value.slice.injEq] at e
  obtain ⟨rfl, _, rfl⟩ := e
  rcases hcase with h0 | ⟨g, o, ea, hg, hcell⟩
  · simp at h0
  · have hrow : w.ownsRow 0 9 1 (.slice a n c) (txtV (l ++ [t])).length (txtV (l ++ [t])) := (h.mem hm).2.1
    obtain ⟨g', ea', hc', _⟩ := owns_at hrow (k := l.length) (u := .string t) (by simp)
    rw [ea] at ea'
    cases ea'
    refine ⟨⟨a, c, rfl, by simp at hc; omega, Or.inr ⟨g, 0, ea, hg, fun j hj => ?_⟩⟩, g, ea, hg, hc'⟩
    have := hcell j (by simp; omega)
    rw [this, List.getElem_append_left hj]

set_option maxHeartbeats 1600000 in
set_option maxRecDepth 1000000 in
theorem sameTexts_q {w : World} {s t : Value} {l : List ByteArray} (hs : Txts w s l) (ht : Txts w t l) (hlen : l.length ≤ 140737488355328) :
    Calls Tryd.prog 20 #[s, t] w fun e w' => e = .returned (.bool true) ∧ ∃ q, w' = w.drewN q := by
  obtain ⟨ao, c, hf⟩ := hs.form
  obtain ⟨ao', c', hf'⟩ := ht.form
  subst hf hf'
  have HS := hid hs
  have HT := hid ht
  clear hs ht
  go_enter Tryd.func20, Tryd.ntmps20
  go_wp2
  go_loopw [5] (fun iv wr => ∃ (k q : Nat), k ≤ l.length ∧ iv = .int .i64 (k : Int) ∧ wr = w.drewN q) (fun iv _ => l.length - (intOf iv).toNat)
  case atStart => exact ⟨0, 0, by omega, rfl, rfl⟩
  case round =>
    obtain ⟨k, q, hk, rfl, rfl⟩ := hrel
    by_cases hlt : k < l.length
    · obtain ⟨g, o, rfl, _, h1⟩ := HS.out.at hlt
      obtain ⟨g', o', rfl, _, h2⟩ := HT.out.at hlt
      generalize l[k] = x at h1 h2
      have hb : (x.toList == x.toList) = true := by simp
      go_wp2
      go_region
      go_wp2
      go_roundw
      case rel => exact ⟨k + 1, q + 1, by omega, by go_num, by simp⟩
      case measure => simp [intOf]; omega
    · go_wp2
      go_ret
      exact ⟨rfl, _, rfl⟩

theorem cut24_run (g m q cq : Nat) (hq : m ≤ cq) (h0 : 0 < cq) (w : World) : (Instr.slice 24 (.slice (some ⟨g, 0, none⟩) q cq) none (some (.int .i64 (m : Int))) none).run Tryd.prog w = .ok (.slice (some ⟨g, 0, none⟩) m cq) w := by
  rw [run_slice_h w 24 (some ⟨g, 0, none⟩) q cq (by kernel_rfl) .i64 (m : Int) (by omega) (by omega)]
  have hs : (sizeOf (Tryd.prog.elem 24)).run Tryd.prog w = .ok 1 w := by kernel_rfl
  rw [hs]
  simp [sliced, Result.andThen, Addr.add_lit]

set_option maxHeartbeats 6400000 in
set_option maxRecDepth 1000000 in
theorem writes_any {w : World} (hT : Tab w) {v : Value} {xs : List Wt} (hS : ScriptAt w v xs) (hb : total xs ≤ 1099511627776) (hl : xs.length ≤ 1048576) :
    Calls Tryd.prog 4 #[v] w fun e w' => e = .returned (.bool true) ∧ Below w.heap.size w w' := by
  obtain ⟨ao, cp, rfl, hcp, hS⟩ := hS
  have HT := hid hT
  have HS := hid hS
  clear hS hT
  go_enter Tryd.func4, Tryd.ntmps4
  go_wp2_with fail
  refine (shown_any HT.out).mono ?_
  rintro e w1 ⟨rfl, B1⟩
  have A := hid ((All.came w).later B1)
  clear B1
  go_wp2_with fail
  refine (newW A.out).mono ?_
  rintro e w2 ⟨B, rfl, A2⟩
  have A := hid A2
  clear A2
  go_wp2_with fail
  refine (xnewW A.out).mono ?_
  rintro e w3 ⟨D, rfl, A3⟩
  have A := hid A3.swap
  clear A3
  go_wp2
  go_loopw [5] (fun iv wr => ∃ (k : Nat) (vw vx : Value) (st : Option (List UInt8)), iv = .int .i64 (k : Int) ∧ k ≤ xs.length ∧ Hid (st = (xs.take k).foldl stepW (some [])) ∧ Hid (All [wrC B vw st, xwC D vx st, inC w] wr)) (fun iv _ => xs.length - (intOf iv).toNat)
  case atStart => exact ⟨0, _, _, _, rfl, Nat.zero_le _, rfl, A⟩
  case round =>
    obtain ⟨k, vw, vx, st, rfl, hk, HF, A⟩ := hrel
    by_cases hlt : k < xs.length
    · have el : decide ((k : Int) < (xs.length : Int)) = true := by simpa using hlt
      obtain ⟨g, o, ea, hg, T0, ⟨hX, hNil⟩, ok⟩ := HS.out k hlt
      have LB : Hid (lenS st + (xs[k]'hlt).wt ≤ 1099511627776) := by
        have h1 := fold_len (xs.take k) (some [])
        have h2 := total_take hlt
        rw [HF.out]
        show _ ≤ _
        have h3 : lenS (some []) = 0 := rfl
        omega
      have HN : Hid ((xs.take (k + 1)).foldl stepW (some []) = stepW st (xs[k]'hlt)) := by rw [HF.out]; exact fold_take hlt _
      subst ea
      generalize (xs[k]'hlt) = e at T0 hX hNil ok LB HN
      have HX := hid hX
      have TT := hid T0
      have HNil := hid hNil
      clear hX T0 HF hNil
      have T := TT.out.later hg (A.out.into (by simp))
      have c0 := T.c0
      by_cases k0 : e.kind = 0
      · have hN : Hid ((xs.take (k + 1)).foldl stepW (some []) = numS st e.N) := by rw [HN.out, stepW, if_pos k0]; exact rfl
        rw [k0] at c0
        have c1 := T.c1
        clear T
        go_wp2_with fail
        refine (numW A.out e.N (by have := ok.N.2; omega) (by have := LB.out; unfold Wt.wt at this; omega)).mono ?_
        rintro e' w4 ⟨rfl, v4, A4⟩
        have A := hid A4.swap
        clear A4 c0 c1
        have c1 := (TT.out.later hg (A.out.into (by simp))).c1
        go_wp2_with fail
        refine (xnumW A.out e.N (by have := ok.N.2; omega) (by have := LB.out; unfold Wt.wt at this; omega)).mono ?_
        rintro e' w5 ⟨rfl, v5, A5⟩
        have A := hid A5.swap
        clear A5 c1
        go_wp2
        go_roundw
        case rel => exact ⟨k + 1, v4, v5, _, by go_num, by omega, hN.out.symm, A⟩
        case measure => simp [intOf]; omega
      · have e0 : (e.kind == 0) = false := by rw [beq_eq_false_iff_ne]; exact k0
        by_cases k1 : e.kind = 1
        · have hN : Hid ((xs.take (k + 1)).foldl stepW (some []) = putA e.k st e.nm e.tx e.n e.m) := by rw [HN.out, stepW, if_neg k0, if_pos k1]; exact rfl
          rw [k1] at c0
          have c2 := T.c2
          have c3 := T.c3
          have c4 := T.c4
          have c5 := T.c5
          have c6 := T.c6
          clear T e0
          go_wp2_with fail
          refine (putO_any A.out (fun w' h' => tab_in HT.out h' (by simp)) e.k e.nm e.tx e.n e.m ok.n.2 ok.m.2 (by have := LB.out; unfold Wt.wt at this; omega)).mono ?_
          rintro e' w4 ⟨rfl, v4, A4⟩
          have A := hid A4.swap
          clear A4 c0 c2 c3 c4 c5 c6
          have T := TT.out.later hg (A.out.into (by simp))
          have c2 := T.c2
          have c3 := T.c3
          have c4 := T.c4
          have c5 := T.c5
          have c6 := T.c6
          clear T
          go_wp2_with fail
          refine (rputO_any A.out e.k e.nm e.tx e.n e.m ok.n.2 ok.m.2 (by have := LB.out; unfold Wt.wt at this; omega)).mono ?_
          rintro e' w5 ⟨rfl, v5, A5⟩
          have A := hid A5.swap
          clear A5 c2 c3 c4 c5 c6
          go_wp2
          go_roundw
          case rel => exact ⟨k + 1, v4, v5, _, by go_num, by omega, hN.out.symm, A⟩
          case measure => simp [intOf]; omega
        · have e1 : (e.kind == 1) = false := by rw [beq_eq_false_iff_ne]; exact k1
          have hN : Hid ((xs.take (k + 1)).foldl stepW (some []) = putX st e.c e.x e.items) := by rw [HN.out, stepW, if_neg k0, if_neg k1]; exact rfl
          obtain ⟨so, sc, es⟩ := HX.out.form
          have c9 := T.c9
          rw [es] at c9
          clear T
          have hgr : g < wr.heap.size := Nat.lt_of_lt_of_le hg (A.out.into (show inC w ∈ _ by simp)).size
          have A1 := hid (A.out.addOwn (e := 9) (l := txtV []) (v := .slice (some ⟨wr.heap.size, 0, none⟩) 0 0) (ba wr (.cells #[] 9)) (World.ownsRow_lit wr #[] 0 (Nat.le_refl _) (by unfold maxLen; omega) rfl))
          have hown : (wr.alloc (.cells #[] 9)).ownsRow 0 9 1 (.slice (some ⟨wr.heap.size, 0, none⟩) 0 0) ([] : List ByteArray).length (txtV []) := A1.out.1.2.1
          have TX := hid ((HX.out.later (A.out.into (show inC w ∈ _ by simp))).alloc (.cells #[] 9))
          rw [es] at TX HNil
          clear A
          go_wp2_with (at_builtin; refine wpList_append_txts rfl (.tmp 30) (.tmp 36) rfl _ [] rfl hown so sc e.items rfl TX.out HNil.out (by have := LB.out; unfold Wt.wt at this; simp; omega) ?_)
          intro v1 w4 ho4 hg4 hat4
          have A2 := hid (A1.out.ownGrow (vs' := txtV e.items) (base := 0) (by simpa using ho4) hg4 (by simpa using hat4))
          obtain ⟨a1, cc1, ev1⟩ := owns_form ho4
          subst ev1
          clear ho4 hg4 hat4 A1 hown TX c0 c9 hgr
          have hown2 : w4.ownsRow 0 9 1 (.slice a1 e.items.length cc1) e.items.length (txtV e.items) := by have := A2.out.1.2.1; simpa [ownC] using this
          obtain ⟨i0, hi, hz0, hz1, hz2⟩ := info_parts Tryd.info9
          have hil : e.items.length ≤ 1099511627776 := by have := LB.out; unfold Wt.wt at this; omega
          go_wp2_with (at_builtin; refine wpList_append_own_at _ rfl (.tmp 38) (.tmp 39) 24 rfl 0 9 i0 (.string ⟨#[]⟩) 1 16 Tryd.und24 hi hz0 hz1 hz2 rfl (by decide) _ _ _ rfl (hown2.alloc _) ⟨w4.heap.size, 0, none⟩ 1 1 [.string sBeh] rfl rfl (cell_one_new _ _ _) (fun u hu => by simp at hu; subst hu; rfl) (by unfold maxLen; omega) (by omega) (by omega) ?_)
          intro v2 w5 ho5 hg5 hnil5 hat5
          have A3 := hid ((A2.out.alloc (.cells #[.string sBeh] 9)).ownGrow (vs' := txtV (e.items ++ [sBeh])) (base := 0) (by simpa [txtV] using ho5) hg5 (by simpa using hat5))
          obtain ⟨a2, cc2, ev2⟩ := owns_form ho5
          subst ev2
          clear ho5 hg5 hnil5 hat5 A2 hown2
          have hln := (owns_len (A3.out.1.2.1 : w5.ownsRow 0 9 1 (.slice a2 (e.items.length + 1) cc2) (txtV (e.items ++ [sBeh])).length (txtV (e.items ++ [sBeh])))).2
          rw [List.length_map, List.length_append, List.length_singleton] at hln
          obtain ⟨_, g2, ea2, hg2, _⟩ := txts_front (l := e.items) (t := sBeh) A3.out List.mem_cons_self
          subst ea2
          have hcut := fun W => cut24_run g2 e.items.length (e.items.length + 1) cc2 (by omega) (by omega) W
          have T := TT.out.later hg (A3.out.into (by simp))
          have c7 := T.c7
          have c8 := T.c8
          have c9 := T.c9
          rw [es] at c9
          clear T
          have hgr : g < w5.heap.size := Nat.lt_of_lt_of_le hg (A3.out.into (show inC w ∈ _ by simp)).size
          go_wp2_with fail
          have A4 := hid ((A3.out.alloc (.cells #[.int .i64 e.c, .int .i64 e.x, .slice (some ⟨g2, 0, none⟩) e.items.length cc2] 26)).swap)
          clear A3 c7 c8 c9 hcut hg2
          refine (putR_any A4.out (fun w' h' => (txts_front h' List.mem_cons_self).1) e.c e.x ok.c.2 ok.x.2 (by have := LB.out; unfold Wt.wt at this; omega) hil).mono ?_
          rintro e' w6 ⟨rfl, v6, A6⟩
          have A6 := hid A6
          clear A4
          obtain ⟨t6, g2', ea2, hg2, cB⟩ := txts_front (l := e.items) (t := sBeh) A6.out mem2
          cases ea2
          have T6 := hid t6
          clear t6
          have hcut := fun W => cut24_run g2 e.items.length (e.items.length + 1) cc2 (by omega) (by omega) W
          have T := TT.out.later hg (A6.out.into (by simp))
          have c9 := T.c9
          rw [es] at c9
          clear T
          have ST := hid (show Calls Tryd.prog 20 #[.slice (some ⟨g2, 0, none⟩) e.items.length cc2, .slice so e.items.length sc] w6.drew fun e1 w' => e1 = .returned (.bool true) ∧ Hid (All [wrC B v6 (putX st e.c e.x e.items), ownC 9 (.slice (some ⟨g2, 0, none⟩) (e.items.length + 1) cc2) (txtV (e.items ++ [sBeh])), xwC D vx st, inC w] w') ∧ w'.cell? ⟨g2, e.items.length, none⟩ = some (.string sBeh) from by
            refine (sameTexts_true (T6.out.later (bd w6)) ((show Txts w6 (.slice so e.items.length sc) e.items from by have := HX.out.later (A6.out.into (show inC w ∈ _ by simp)); rw [es] at this; exact this).later (bd w6)) (by omega)).mono ?_
            rintro e1 w' ⟨h1, h2⟩
            have A7 := A6.out.drew.later h2
            obtain ⟨_, g3, e3, _, c3⟩ := txts_front (l := e.items) (t := sBeh) A7 mem2
            cases e3
            exact ⟨h1, A7, c3⟩)
          have eB : (sBeh.toList == sBeh.toList) = true := by simp
          have c9d : w6.drew.cell? ⟨g, o + k * 10 + 9, none⟩ = some (.slice so e.items.length sc) := c9
          have wI : IntKind.i64.wrap (e.items.length : Int) = (e.items.length : Int) := by simp [IntKind.wrap, IntKind.bits, IntKind.signed]; omega
          have lI : (e.items.length : Int) ≤ (cc2 : Int) := by omega
          have zI : (0 : Int) ≤ (e.items.length : Int) := by omega
          have yI : (e.items.length : Int) < (e.items.length : Int) + 1 := by omega
          go_wp2
          go_region_law (go_simp; go_at_call 20; refine ST.out.mono ?_; rintro e1 w7 ⟨rfl, A7, cB7⟩)
          all_goals (
            have T := TT.out.later hg (A7.out.into (by simp))
            have d7 := T.c7
            have d8 := T.c8
            have d9 := T.c9
            rw [es] at d9
            clear T ST
            have A8 := hid (A7.out.perm (ds := [xwC D vx st, wrC B v6 (putX st e.c e.x e.items), ownC 9 (.slice (some ⟨g2, 0, none⟩) (e.items.length + 1) cc2) (txtV (e.items ++ [sBeh])), inC w]) (List.perm_middle (l₁ := [wrC B v6 (putX st e.c e.x e.items), ownC 9 (.slice (some ⟨g2, 0, none⟩) (e.items.length + 1) cc2) (txtV (e.items ++ [sBeh]))])))
            clear A7
            go_wp2_with fail
            refine (rputR_any (s := .slice so e.items.length sc) (l := e.items) A8.out (fun w' h' => by have := HX.out.later (h'.into (show inC w ∈ _ by simp)); rw [es] at this; exact this) e.c e.x ok.c.2 ok.x.2 (by have := LB.out; unfold Wt.wt at this; omega) hil).mono ?_
            rintro e1 w8 ⟨rfl, v8, A9⟩
            have A10 := hid ((A9.perm (ds := [ownC 9 (.slice (some ⟨g2, 0, none⟩) (e.items.length + 1) cc2) (txtV (e.items ++ [sBeh])), xwC D v8 (putX st e.c e.x e.items), wrC B v6 (putX st e.c e.x e.items), inC w]) (List.perm_middle (l₁ := [xwC D v8 (putX st e.c e.x e.items), wrC B v6 (putX st e.c e.x e.items)]))).tail.swap)
            clear A9 A8 d7 d8 d9 cB7
            go_wp2
            go_roundw
            case rel => exact ⟨k + 1, v6, v8, _, by go_num, by omega, hN.out.symm, A10⟩
            case measure => simp [intOf]; omega)
    · have el : decide ((k : Int) < (xs.length : Int)) = false := by simp; omega
      have LB : Hid (lenS st ≤ 1099511627776) := by
        have h1 := fold_len (xs.take k) (some [])
        have h3 : lenS (some []) = 0 := rfl
        rw [List.take_of_length_le (by omega)] at h1
        rw [HF.out, List.take_of_length_le (by omega)]
        show _ ≤ _
        omega
      clear HF HS
      cases st with
      | none =>
        go_wp2_with fail
        refine (done_broken A.out.1.2.1).mono ?_
        rintro e w4 ⟨rfl, rfl⟩
        go_wp2_with fail
        refine (xdone_broken A.out.2.2.1.2.1).mono ?_
        rintro e w5 ⟨rfl, rfl⟩
        go_wp2_with fail
        refine (same_true (l := []) ⟨none, 0, rfl, by simp, Or.inl ⟨rfl, rfl, rfl⟩⟩ ⟨none, 0, rfl, by simp, Or.inl ⟨rfl, rfl, rfl⟩⟩ (by simp)).mono ?_
        rintro e w6 ⟨rfl, B6⟩
        have A := hid (A.out.later B6)
        clear B6
        go_wp2
        go_ret
        exact ⟨rfl, A.out.into (by simp)⟩
      | some bs =>
        have hbs : bs.length ≤ 1099511627776 := LB.out
        go_wp2_with fail
        refine (doneW A.out (by omega)).mono ?_
        rintro e w4 ⟨so, sc, rfl, A4⟩
        have A := hid (A4.perm (ds := [xwC D vx (some bs), ownC 5 (.slice so bs.length sc) (cellsB bs), wrC B vw (some bs), inC w]) (List.perm_middle (l₁ := [ownC 5 (.slice so bs.length sc) (cellsB bs), wrC B vw (some bs)])))
        clear A4
        go_wp2_with fail
        refine (xdoneW A.out (by omega)).mono ?_
        rintro e w5 ⟨so', sc', rfl, A5⟩
        have A := hid A5
        clear A5
        have R1 := hid (Reads.of_owns (w := w5) (base := 0) (l := bs) (s := .slice so bs.length sc) (by have h' : w5.ownsRow 0 5 1 (.slice so bs.length sc) (cellsB bs).length (cellsB bs) := (A.out.mem mem3).2.1; rw [cellsB_length] at h'; exact h'))
        have R2 := hid (Reads.of_owns (w := w5) (base := 0) (l := bs) (s := .slice so' bs.length sc') (by have h' : w5.ownsRow 0 5 1 (.slice so' bs.length sc') (cellsB bs).length (cellsB bs) := (A.out.mem List.mem_cons_self).2.1; rw [cellsB_length] at h'; exact h'))
        go_wp2_with fail
        refine (same_true R1.out R2.out (by omega)).mono ?_
        rintro e w6 ⟨rfl, B6⟩
        have A := hid (A.out.later B6)
        clear B6
        go_wp2
        go_ret
        exact ⟨rfl, A.out.into (by simp)⟩
end Go.Proofs.YtkcepkehgkkkbaaDoor

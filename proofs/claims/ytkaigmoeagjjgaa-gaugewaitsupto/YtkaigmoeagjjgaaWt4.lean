import Derived.Test.YtkaigmoeagjjgaaWt3
namespace Go.Proofs.Ytkaigmoeagjjgaa
open Go.RowKit
set_option linter.unusedVariables false

theorem HistAt.at {w : World} {v : Value} {H : List (List Ev)} (h : HistAt w v H) {i : Nat} {r : List Ev} (hr : H[i]? = some r) : ∃ b off c ro rc, v = .slice (some ⟨b, off, none⟩) H.length c ∧ b < w.heap.size ∧ w.cell? ⟨b, off + i, none⟩ = some (.slice ro r.length rc) ∧ r.length ≤ rc ∧ EvsAt w (.slice ro r.length rc) r := by
  obtain ⟨o, c, rfl, hc, rfl | ⟨b, off, rfl, hb, h⟩⟩ := h
  · simp at hr
  · obtain ⟨u, hu, hE⟩ := h i r hr
    have hE' := hE
    obtain ⟨ro, rc, rfl, hrc, _⟩ := hE
    exact ⟨b, off, c, ro, rc, rfl, hb, hu, hrc, hE'⟩
theorem EvsAt.at {w : World} {ro : Option Addr} {n rc : Nat} {r : List Ev} (h : EvsAt w (.slice ro n rc) r) {j : Nat} {e : Ev} (he : r[j]? = some e) : ∃ b off, ro = some ⟨b, off, none⟩ ∧ b < w.heap.size ∧ w.cell? ⟨b, off + j * 33, none⟩ = some (.int .i64 e.k) ∧ w.cell? ⟨b, off + j * 33 + 1, none⟩ = some (.int .i64 e.a) ∧ w.cell? ⟨b, off + j * 33 + 2, none⟩ = some (.int .i64 e.n) ∧ EvAt w b (off + j * 33) e := by
  obtain ⟨o, c, e1, hc, rfl | ⟨b, off, rfl, hb, h⟩⟩ := h
  · simp at he
  · simp only [Value.slice.injEq] at e1
    obtain ⟨rfl, _, _⟩ := e1
    have h := h j e he
    exact ⟨b, off, rfl, hb, h.2.1 0 _ h.2.2.1, h.2.1 1 _ h.2.2.2.1, h.2.1 2 _ h.2.2.2.2.1, h⟩
theorem opI_none {l : List Sp} {a n : Int} (h : opn l a n = none) : opI l a n = -1 := by unfold opI; rw [h]
theorem opI_some {l : List Sp} {a n : Int} {i : Nat} (h : opn l a n = some i) : opI l a n = (i : Int) := by unfold opI; rw [h]
theorem opn_lt {l : List Sp} {a n : Int} {i : Nat} (h : opn l a n = some i) : ∃ x, l[i]? = some x := by
  unfold opn at h
  rw [List.findIdx?_eq_some_iff_getElem] at h
  obtain ⟨hi, _⟩ := h
  exact ⟨_, List.getElem?_eq_getElem hi⟩

set_option maxRecDepth 100000 in
set_option maxHeartbeats 8000000 in
theorem rWaits_any {w : World} {v : Value} {H : List (List Ev)} (h : HistAt w v H) (ht : tot H ≤ 1048576) (hn : H.length ≤ 1048576) : Calls Try.prog 25 #[v] w fun e w' => ∃ oo oc, e = .returned (.slice oo (tooks (wall H)).length oc) ∧ All [ownC 3 (.slice oo (tooks (wall H)).length oc) (ints (tooks (wall H))), inC w] w' := by
  have HH := hid h
  obtain ⟨o, c, rfl, hc, _⟩ := h
  have A0 := hid (own_emptyP ((All.came w).addBlk [] 84))
  obtain ⟨Q, hQ⟩ : ∃ Q : Ending → World → Prop, Hid (Q = fun e w' => ∃ oo oc, e = .returned (.slice oo (tooks (wall H)).length oc) ∧ All [ownC 3 (.slice oo (tooks (wall H)).length oc) (ints (tooks (wall H))), inC w] w') := ⟨_, rfl⟩
  rw [← hQ.out]
  go_enter Try.func25, Try.ntmps25
  go_wp2
  generalize w.alloc (.cells #[] 84) = w1 at A0 ⊢
  go_loopw [3, 4] (fun u s wr => ∃ (i L : Nat) (oo : Option Addr) (oc : Nat) (S : List Sp), i ≤ H.length ∧ u = .slice oo L oc ∧ s = .int .i64 (i : Int) ∧ Hid (S = wall (H.take i)) ∧ Hid (L = S.length) ∧ Hid (Beg S i) ∧ All [rowC 84 5 u L (flatP S), inC w] wr) (fun _ s _ => H.length - (intOf s).toNat)
  case atStart => exact ⟨0, 0, _, _, [], Nat.zero_le _, rfl, rfl, hid rfl, hid rfl, hid (fun x hx => by simp at hx), A0.out⟩
  case round =>
    obtain ⟨i, L, oo, oc, S, hi, rfl, rfl, hS, hL, hB, hA⟩ := hrel
    have HA := hid hA
    clear hA A0
    by_cases hlt : i < H.length
    · obtain ⟨r, hr⟩ : ∃ r, H[i]? = some r := ⟨_, List.getElem?_eq_getElem hlt⟩
      obtain ⟨gh, oh, ch, ro, rc, e1, hgh, ch0, hrc, hE⟩ := HH.out.at hr
      simp only [Value.slice.injEq, true_and] at e1
      obtain ⟨rfl, rfl⟩ := e1
      have HE := hid hE
      have hrt : S.length + r.length ≤ 1048576 := by
        have h1 := wall_len (H.take i)
        have h2 := tot_snoc (H.take i) r
        rw [← take_snocG hr] at h2
        have h3 := tot_take H (i + 1)
        rw [hS.out]
        omega
      have HRT := hid hrt
      have hrl : r.length ≤ 1048576 := by omega
      have HR := hid hr
      clear hE hr hrt
      go_wp2
      go_loopw [3, 5] (fun u s wx => ∃ (j M : Nat) (oo : Option Addr) (oc : Nat) (T : List Sp), j ≤ r.length ∧ u = .slice oo M oc ∧ s = .int .i64 (j : Int) ∧ Hid (T = wrow S (r.take j) i) ∧ Hid (M = T.length) ∧ All [rowC 84 5 u M (flatP T), inC w] wx) (fun _ s _ => r.length - (intOf s).toNat)
      case atStart => exact ⟨0, L, oo, oc, S, Nat.zero_le _, rfl, rfl, hid rfl, hL, HA.out⟩
      case round =>
        obtain ⟨j, M, oo2, oc2, T, hj, rfl, rfl, hT, hM, hA2⟩ := hrel
        have HA2 := hid hA2
        have hbw := inC_of (w := w) hA2 (by simp)
        have ch1 : wr.cell? ⟨gh, oh + i, none⟩ = some (.slice ro r.length rc) := (hbw.cell (p := ⟨gh, oh + i, none⟩) hgh).trans ch0
        by_cases hlt2 : j < r.length
        · obtain ⟨e, he⟩ : ∃ e, r[j]? = some e := ⟨_, List.getElem?_eq_getElem hlt2⟩
          obtain ⟨b, off, rfl, hb, k0, k1, k2, _⟩ := (HE.out.later hbw).at he
          have hsn := hid (show wrow S (r.take (j + 1)) i = wstep T e.k e.a e.n i by rw [take_snocG he, wrow_snoc, ← hT.out])
          have hTB : Beg T i := by rw [hT.out]; exact hB.out.row (by omega) _
          have hTl : T.length + 1 ≤ 1048576 := by
            have h1 := wrow_len (r.take j) i S
            rw [← hT.out, List.length_take] at h1
            have := HRT.out
            omega
          have HTB := hid hTB
          have HTL := hid hTl
          obtain ⟨ek, ea, en, eus⟩ := e
          have hM' := hM.out
          subst hM'
          have CO := hid (open_any (a := ea) (n := en) (show wr.ownsRow 0 84 5 (.slice oo2 T.length oc2) T.length (flatP T) from hA2.1.2.1) (by omega))
          clear hA2 he hTB hTl hbw HA
          change wr.cell? ⟨b, off + j * 33, none⟩ = some (.int .i64 ek) at k0
          change wr.cell? ⟨b, off + j * 33 + 1, none⟩ = some (.int .i64 ea) at k1
          change wr.cell? ⟨b, off + j * 33 + 2, none⟩ = some (.int .i64 en) at k2
          change Hid (wrow S (r.take (j + 1)) i = wstep T ek ea en i) at hsn
          by_cases h2 : ek = 2
          · subst h2
            cases ho : opn T ea en with
            | none =>
              have hN := opI_none ho
              rw [hN] at CO
              have hst := hid (show wrow S (r.take (j + 1)) i = T ++ [⟨ea, en, i, 0, false⟩] by rw [hsn.out]; unfold wstep; rw [if_pos rfl, ho])
              clear hN hsn ho
              go_wp2_with fail
              refine CO.out.mono ?_
              rintro e w2 ⟨rfl, rfl⟩
              have A1 := hid (HA2.out.alloc (.cells (Sp.cells ⟨ea, en, i, 0, false⟩).toArray 84))
              have hb8 : (T.length + 1) * 40 ≤ 140737488355328 := by have := HTL.out; omega
              have hK := World.alloc_heap_new w2 (.cells (Sp.cells ⟨ea, en, i, 0, false⟩).toArray 84)
              clear CO k0 k1 k2 ch1
              go_wp2_with (at_builtin; refine wpList_appP rfl rfl A1.out rfl rfl hK hb8 ?_; intro oo3 oc3 w' hA3; have HA3 := hid hA3; clear hA3 hK)
              clear A1 HA2
              go_wp2
              go_roundw
              case rel => exact ⟨j + 1, _, oo3, oc3, T ++ [⟨ea, en, i, 0, false⟩], by omega, rfl, rfl, hid hst.out.symm, hid (by simp), HA3.out⟩
              case measure => simp [intOf]; omega
            | some i0 =>
              have hN := opI_some ho
              rw [hN] at CO
              have hst := hid (show wrow S (r.take (j + 1)) i = T by rw [hsn.out]; unfold wstep; rw [if_pos rfl, ho])
              clear hN hsn ho
              go_wp2_with fail
              refine CO.out.mono ?_
              rintro e w2 ⟨rfl, rfl⟩
              clear CO k0 k1 k2 ch1
              go_wp2
              go_roundw
              case rel => exact ⟨j + 1, _, oo2, oc2, T, by omega, rfl, rfl, hid hst.out.symm, hid rfl, HA2.out⟩
              case measure => simp [intOf]; omega
          · by_cases h4 : ek = 4
            · subst h4
              cases ho : opn T ea en with
              | none =>
                have hN := opI_none ho
                rw [hN] at CO
                have hst := hid (show wrow S (r.take (j + 1)) i = T by rw [hsn.out]; unfold wstep; rw [if_neg (by decide), if_pos rfl, ho])
                clear hN hsn ho h2
                go_wp2_with fail
                refine CO.out.mono ?_
                rintro e w2 ⟨rfl, rfl⟩
                clear CO k0 k1 k2 ch1
                go_wp2
                go_roundw
                case rel => exact ⟨j + 1, _, oo2, oc2, T, by omega, rfl, rfl, hid hst.out.symm, hid rfl, HA2.out⟩
                case measure => simp [intOf]; omega
              | some i0 =>
                obtain ⟨x, hx⟩ := opn_lt ho
                have hN := opI_some ho
                rw [hN] at CO
                have hst := hid (show wrow S (r.take (j + 1)) i = T.set i0 { x with t := i - x.b, d := true } by rw [hsn.out]; unfold wstep; rw [if_neg (by decide), if_pos rfl, ho]; simp only [hx])
                obtain ⟨xa, xn, xb, xt, xd⟩ := x
                have hbx := HTB.out _ (List.mem_of_getElem? hx)
                change 0 ≤ xb ∧ xb ≤ (i : Int) at hbx
                obtain ⟨hx0, hx1⟩ := hbx
                change Hid (wrow S (r.take (j + 1)) i = T.set i0 ⟨xa, xn, xb, i - xb, true⟩) at hst
                have hfs := hid (flatP_set ((i : Int) - xb) true hx)
                change Hid (flatP (T.set i0 ⟨xa, xn, xb, i - xb, true⟩) = _) at hfs
                have hil := (List.getElem?_eq_some_iff.1 hx).1
                have hx2 := hid hx
                clear hN hsn ho h2 hx
                go_wp2_with fail
                refine CO.out.mono ?_
                rintro e w2 ⟨rfl, rfl⟩
                obtain ⟨g, rfl, hg, s0, s1, s2, s3, s4, cf⟩ := sp_at HA2.out.1.2.1 hx2.out
                have A3 := hid (HA2.out.setRow1 (k := i0 * 5 + 4) (.bool true))
                have A4 := hid (A3.out.setRow1 (k := i0 * 5 + 3) (.int .i64 ((i : Int) - xb)))
                have get2 : ∀ q u, q < 5 → q ≠ 4 → (Sp.cells ⟨xa, xn, xb, xt, xd⟩)[q]? = some u → (w2.setCell ⟨g, i0 * 5 + 4, none⟩ (.bool true)).cell? ⟨g, i0 * 5 + q, none⟩ = some u ∧ (w2.setCell ⟨g, i0 * 5 + 4, none⟩ (.bool true)).frozen? ⟨g, i0 * 5 + q, none⟩ = false := fun q u hq hq4 hu => by
                  obtain ⟨g', e, _, h3, h4⟩ := row_cell (k := i0 * 5 + q) (u := u) (show (w2.setCell ⟨g, i0 * 5 + 4, none⟩ (.bool true)).ownsRow 0 84 5 (.slice (some ⟨g, 0, none⟩) T.length oc2) T.length _ from A3.out.1.2.1) (by rw [List.getElem?_set_ne (by omega), flatP_get hx2.out hq]; exact hu)
                  simp only [Option.some.injEq, Addr.mk.injEq, and_true] at e
                  subst e
                  exact ⟨h3, h4⟩
                have d2 := (get2 2 _ (by omega) (by omega) rfl).1
                have d3 := get2 3 _ (by omega) (by omega) rfl
                have d31 := d3.1
                have d32 := d3.2
                have f4 := cf (i0 * 5 + 4)
                have hin : i < 1048577 := by omega
                clear CO k0 k1 k2 ch1 s0 s1 s2 s3 cf get2 d3 hx2 A3
                go_wp2
                go_roundw
                case rel => exact ⟨j + 1, T.length, _, oc2, T.set i0 ⟨xa, xn, xb, i - xb, true⟩, by omega, rfl, rfl, hid hst.out.symm, hid (by rw [List.length_set]), by rw [hfs.out]; exact A4.out⟩
                case measure => simp [intOf]; omega
            · have e2 : (ek != 2) = true := by simpa using h2
              have e4 : (ek != 4) = true := by simpa using h4
              have hst := hid (show wrow S (r.take (j + 1)) i = T by rw [hsn.out]; unfold wstep; rw [if_neg h2, if_neg h4])
              clear hsn h2 h4 CO
              go_wp2
              go_roundw
              case rel => exact ⟨j + 1, _, oo2, oc2, T, by omega, rfl, rfl, hid hst.out.symm, hid rfl, HA2.out⟩
              case measure => simp [intOf]; omega
        · obtain rfl : j = r.length := by omega
          rw [List.take_length] at hT
          have hfin : Hid (T = wall (H.take (i + 1))) := hid (by rw [take_snocG HR.out, wall_snoc, hT.out, hS.out, List.length_take, Nat.min_eq_left (by omega)])
          have hB2 : Hid (Beg T ((i + 1 : Nat) : Int)) := hid (by rw [hT.out]; exact (hB.out.row (by omega) _).mono (by omega))
          clear hA2 hbw HA
          go_wp2
          go_roundw
          case rel => exact ⟨i + 1, M, oo2, oc2, T, by omega, rfl, rfl, hfin, hM, hB2, HA2.out⟩
          case measure => simp [intOf]; omega
    · obtain rfl : i = H.length := by omega
      rw [List.take_length] at hS
      have hL' := hL.out
      subst hL'
      have hSl : S.length ≤ 1048576 := by rw [hS.out]; exact Nat.le_trans (wall_len H) ht
      have A1 := hid (own_nil HA.out)
      clear hL hB
      go_wp2
      generalize wr.alloc (.cells #[] 3) = w2 at A1 ⊢
      go_loopw [10, 11] (fun u s wx => ∃ (k M : Nat) (o3 : Option Addr) (c3 : Nat), k ≤ S.length ∧ Hid (M = (tooks (S.take k)).length) ∧ u = .slice o3 M c3 ∧ s = .int .i64 (k : Int) ∧ All [ownC 3 u (ints (tooks (S.take k))), rowC 84 5 (.slice oo S.length oc) S.length (flatP S), inC w] wx) (fun _ s _ => S.length - (intOf s).toNat)
      case atStart => exact ⟨0, 0, _, _, Nat.zero_le _, hid rfl, rfl, rfl, A1.out⟩
      case round =>
        obtain ⟨k, M, o3, c3, hk, hM, rfl, rfl, hA3⟩ := hrel
        have HA3 := hid hA3
        clear A1 HA
        by_cases hlt2 : k < S.length
        · obtain ⟨x, hx⟩ : ∃ x, S[k]? = some x := ⟨_, List.getElem?_eq_getElem hlt2⟩
          obtain ⟨g, rfl, hg, s0, s1, s2, s3, s4, cf⟩ := sp_at (show wr.ownsRow 0 84 5 (.slice oo S.length oc) S.length (flatP S) from hA3.swap.1.2.1) hx
          have hts := hid (show tooks (S.take (k + 1)) = _ by rw [take_snocG hx, tooks_snoc])
          have htl : (tooks (S.take k)).length ≤ 1048576 := by
            unfold tooks
            rw [List.length_map]
            exact Nat.le_trans (List.length_filter_le _ _) (by rw [List.length_take]; omega)
          generalize tooks (S.take k) = tk at hts htl hM HA3
          have hM' := hM.out
          subst hM'
          obtain ⟨xa, xn, xb, xt, xd⟩ := x
          change wr.cell? ⟨g, k * 5 + 3, none⟩ = some (.int .i64 xt) at s3
          change wr.cell? ⟨g, k * 5 + 4, none⟩ = some (.bool xd) at s4
          change Hid (tooks (S.take (k + 1)) = tk ++ (if xd = true then [xt] else [])) at hts
          clear hA3 hx s0 s1 s2 cf hM
          cases xd with
          | true =>
            have hts2 := hid (show tooks (S.take (k + 1)) = tk ++ [xt] from hts.out)
            have A5 := hid (HA3.out.alloc (.cells #[.int .i64 xt] 3))
            have hb8 : (tk.length + [xt].length) * 8 ≤ 140737488355328 := by rw [List.length_singleton]; omega
            clear hts
            go_wp2_with (at_builtin; refine wpList_app rfl rfl A5.out rfl rfl (ints_new _ _) hb8 ?_; intro v' w' hA2 hf hsz; obtain ⟨oo3, oc3, rfl⟩ := hf; have HA5 := hid hA2; clear hA2 hsz)
            clear A5 HA3
            go_wp2
            go_roundw
            case rel => exact ⟨k + 1, _, oo3, oc3, by omega, hid (by rw [hts2.out, List.length_append]; rfl), rfl, rfl, by rw [hts2.out]; exact HA5.out⟩
            case measure => simp [intOf]; omega
          | false =>
            have hts2 := hid (show tooks (S.take (k + 1)) = tk by rw [hts.out]; simp)
            clear hts
            go_wp2
            go_roundw
            case rel => exact ⟨k + 1, _, o3, c3, by omega, hid (by rw [hts2.out]), rfl, rfl, by rw [hts2.out]; exact HA3.out⟩
            case measure => simp [intOf]; omega
        · obtain rfl : k = S.length := by omega
          rw [List.take_length] at HA3 hM
          have hM' := hM.out
          subst hM'
          clear hA3 hM
          go_wp2
          rw [hQ.out, ← hS.out]
          exact ⟨o3, c3, rfl, HA3.out.swap.tail⟩
end Go.Proofs.Ytkaigmoeagjjgaa

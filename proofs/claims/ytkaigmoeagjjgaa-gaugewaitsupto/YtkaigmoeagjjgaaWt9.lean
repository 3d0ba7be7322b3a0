import Derived.Test.YtkaigmoeagjjgaaWt8
import Derived.Test.YtkaigmoeagjjgaaWt4
import Derived.Deep.MidRow
import Derived.Deep.WholeRow
namespace Go.Proofs.Ytkaigmoeagjjgaa
open Go.RowKit
open Go.Maps (Keyed)
set_option linter.unusedVariables false

theorem begin_any {w : World} {K B n : Nat} {oo : Option Addr} {oc : Nat} {D : DataW Unit} {S : List Sp} {cs : List Comp} {a m s : Int} (hA : All (watchL K (.slice oo S.length oc) B n D S cs) w) (hs : Says D S) (ha : okI a) (hm : okI m) (hn : n ≤ 1048577) (hS : S.length ≤ 1048577) : Calls Try.prog 39 #[.pointer (some ⟨K, 0, none⟩), .agg #[.int .i64 a, .int .i64 m], .int .i64 s] w fun e w' => e = .returned (.tuple #[]) ∧ ∃ o2 c2 n2 D2, Says D2 (wstep S 2 a m s) ∧ n2 ≤ n + 1 ∧ All (watchL K (.slice o2 (wstep S 2 a m s).length c2) B n2 D2 (wstep S 2 a m s) cs) w' := by
  cases ho : opn S a m with
  | none =>
    have e : wstep S 2 a m s = S ++ [⟨a, m, s, 0, false⟩] := by unfold wstep; rw [if_pos rfl, ho]
    rw [e]
    refine (begin_yes hA hs ha hm ho hn hS).mono ?_
    rintro E w' ⟨rfl, o2, c2, D2, h1, h2⟩
    exact ⟨rfl, o2, c2, n + 1, D2, h1, Nat.le_refl _, by rw [List.length_append]; exact h2⟩
  | some i =>
    have e : wstep S 2 a m s = S := by unfold wstep; rw [if_pos rfl, ho]
    rw [e]
    refine (begin_no hA hs ha hm ho).mono ?_
    rintro E w' ⟨rfl, h2⟩
    exact ⟨rfl, oo, oc, n, D, hs, Nat.le_succ _, h2⟩
theorem end_any {w : World} {K B n : Nat} {oo : Option Addr} {oc : Nat} {D : DataW Unit} {S : List Sp} {cs : List Comp} {a m s : Int} (hA : All (watchL K (.slice oo S.length oc) B n D S cs) w) (hs : Says D S) (ha : okI a) (hm : okI m) (hB : Beg S s) (hs1 : s ≤ 1048577) (hS : S.length ≤ 1048577) : Calls Try.prog 41 #[.pointer (some ⟨K, 0, none⟩), .agg #[.int .i64 a, .int .i64 m], .int .i64 s] w fun e w' => e = .returned (.tuple #[]) ∧ ∃ o2 c2 n2 D2, Says D2 (wstep S 4 a m s) ∧ n2 ≤ n + 1 ∧ All (watchL K (.slice o2 (wstep S 4 a m s).length c2) B n2 D2 (wstep S 4 a m s) cs) w' := by
  cases ho : opn S a m with
  | none =>
    have e : wstep S 4 a m s = S := by unfold wstep; rw [if_neg (by decide), if_pos rfl, ho]
    rw [e]
    refine (end_no hA hs ha hm ho).mono ?_
    rintro E w' ⟨rfl, h2⟩
    exact ⟨rfl, oo, oc, n, D, hs, Nat.le_succ _, h2⟩
  | some i =>
    obtain ⟨x, hx⟩ := opn_lt ho
    have e : wstep S 4 a m s = S.set i { x with t := s - x.b, d := true } := by unfold wstep; rw [if_neg (by decide), if_pos rfl, ho]; simp only [hx]
    rw [e]
    have hb := hB x (List.mem_of_getElem? hx)
    refine (end_yes hA hs ha hm ho hx hb.1 hb.2 hs1 hS).mono ?_
    rintro E w' ⟨rfl, D2, h1, h2⟩
    exact ⟨rfl, oo, oc, n, D2, h1, Nat.le_succ _, by rw [List.length_set]; exact h2⟩

theorem All.keep1 {a b c d : Comp} {cs : List Comp} {w : World} (h : All (d :: a :: b :: c :: cs) w) : All (d :: cs) w :=
  (h.perm (ds := a :: b :: c :: d :: cs) (List.perm_middle (l₁ := [a, b, c])).symm).tail.tail.tail
set_option maxRecDepth 1000000 in
set_option maxHeartbeats 8000000 in
theorem Waits_any {w : World} {v : Value} {H : List (List Ev)} (h : HistAt w v H) (hw : ∀ r ∈ H, ∀ e ∈ r, okI e.a ∧ okI e.n) (ht : tot H ≤ 1048576) (hn : H.length ≤ 1048576) : Calls Try.prog 24 #[v] w fun e w' => ∃ oo oc, e = .returned (.slice oo (tooks (wall H)).length oc) ∧ All [ownC 3 (.slice oo (tooks (wall H)).length oc) (ints (tooks (wall H))), inC w] w' := by
  have HH := hid h
  have HW := hid hw
  obtain ⟨o, c, rfl, hc, _⟩ := h
  obtain ⟨Q, hQ⟩ : ∃ Q : Ending → World → Prop, Hid (Q = fun e w' => ∃ oo oc, e = .returned (.slice oo (tooks (wall H)).length oc) ∧ All [ownC 3 (.slice oo (tooks (wall H)).length oc) (ints (tooks (wall H))), inC w] w') := ⟨_, rfl⟩
  rw [← hQ.out]
  have hmm := @run_makeMap Try.prog
  have A0 : Hid (All (watchL (w.heap.size + 1) (.slice none 0 0) w.heap.size 0 (.map []) [] [inC w]) ((w.alloc (.map #[] 0)).alloc (.cells #[.slice none 0 0, .map (some w.heap.size)] 60))) := hid (by
    have h1 := (All.came w).addMap.addRow0 (e := 91) (size := 3)
    have h2 := h1.addBlk [.slice none 0 0, .map (some w.heap.size)] 60
    have e : (w.alloc (.map #[] 0)).heap.size = w.heap.size + 1 := by simp
    rw [e] at h2
    exact h2)
  clear hw
  go_enter Try.func24, Try.ntmps24
  go_wp2
  generalize ((w.alloc (.map #[] 0)).alloc (.cells #[.slice none 0 0, .map (some w.heap.size)] 60)) = w1 at A0 ⊢
  generalize w.heap.size + 1 = K at A0 ⊢
  generalize w.heap.size = B at A0 ⊢
  go_loopw [12] (fun s wr => ∃ (i n : Nat) (oo : Option Addr) (oc : Nat) (D : DataW Unit) (S : List Sp), i ≤ H.length ∧ s = .int .i64 (i : Int) ∧ Hid (S = wall (H.take i)) ∧ Hid (Beg S i) ∧ Hid (Says D S) ∧ Hid (n ≤ tot (H.take i)) ∧ All (watchL K (.slice oo S.length oc) B n D S [inC w]) wr) (fun s _ => H.length - (intOf s).toNat)
  case atStart => exact ⟨0, 0, none, 0, .map [], [], Nat.zero_le _, rfl, hid rfl, hid (fun x hx => by simp at hx), hid Says.nil, hid (Nat.zero_le _), A0.out⟩
  case round =>
    obtain ⟨i, n, oo, oc, D, S, hi, rfl, hS, hB, hSy, hnn, hA⟩ := hrel
    have HA := hid hA
    have hbw0 := inC_of (w := w) hA (by simp [watchL])
    clear hA A0
    by_cases hlt : i < H.length
    · obtain ⟨r, hr⟩ : ∃ r, H[i]? = some r := ⟨_, List.getElem?_eq_getElem hlt⟩
      obtain ⟨gh, oh, ch, ro, rc, e1, hgh, ch0, hrc, hE⟩ := HH.out.at hr
      simp only [Value.slice.injEq, true_and] at e1
      obtain ⟨rfl, rfl⟩ := e1
      have ch1 : wr.cell? ⟨gh, oh + i, none⟩ = some (.slice ro r.length rc) := (hbw0.cell (p := ⟨gh, oh + i, none⟩) hgh).trans ch0
      have HE := hid hE
      have hrt : tot (H.take i) + r.length ≤ 1048576 := by
        have h2 := tot_snoc (H.take i) r
        rw [← take_snocG hr] at h2
        have h3 := tot_take H (i + 1)
        omega
      have hSl : S.length ≤ tot (H.take i) := by rw [hS.out]; exact wall_len _
      have HRT := hid hrt
      have HSL := hid hSl
      have hrl : r.length ≤ 1048576 := by omega
      have HR := hid hr
      clear hE hr hrt hSl hbw0 ch0
      go_wp2
      go_loopw [19] (fun s wx => ∃ (j m : Nat) (oo : Option Addr) (oc : Nat) (D : DataW Unit) (T : List Sp), j ≤ r.length ∧ s = .int .i64 (j : Int) ∧ Hid (T = wrow S (r.take j) i) ∧ Hid (Says D T) ∧ Hid (m ≤ tot (H.take i) + j) ∧ All (watchL K (.slice oo T.length oc) B m D T [inC w]) wx) (fun s _ => r.length - (intOf s).toNat)
      case atStart => exact ⟨0, n, oo, oc, D, S, Nat.zero_le _, rfl, hid rfl, hSy, hnn, HA.out⟩
      case round =>
        obtain ⟨j, m, oo2, oc2, D2, T, hj, rfl, hT, hSy2, hm2, hA2⟩ := hrel
        have HA2 := hid hA2
        have hbw := inC_of (w := w) hA2 (by simp [watchL])
        by_cases hlt2 : j < r.length
        · obtain ⟨e, he⟩ : ∃ e, r[j]? = some e := ⟨_, List.getElem?_eq_getElem hlt2⟩
          obtain ⟨b, off, rfl, hb, k0, k1, k2, hEv⟩ := (HE.out.later hbw).at he
          have hsn := hid (show wrow S (r.take (j + 1)) i = wstep T e.k e.a e.n i by rw [take_snocG he, wrow_snoc, ← hT.out])
          have hTB : Beg T i := by rw [hT.out]; exact hB.out.row (by omega) _
          have hTl : T.length + 1 ≤ 1048576 := by
            have h1 := wrow_len (r.take j) i S
            rw [← hT.out, List.length_take] at h1
            have := HRT.out
            have := HSL.out
            omega
          have hm3 : m ≤ 1048576 := by
            have := HRT.out
            have := hm2.out
            omega
          have hok := hid (HW.out r (List.mem_of_getElem? HR.out) e (List.mem_of_getElem? he))
          have HTB := hid hTB
          have HTL := hid hTl
          obtain ⟨ek, ea, en, us⟩ := e
          obtain ⟨hul, hrg, hu0, hu1, hu2, h1c⟩ := hEv
          change us.length = 33 at hul
          change Hid (okI ea ∧ okI en) at hok
          change Hid (wrow S (r.take (j + 1)) i = wstep T ek ea en i) at hsn
          have RG : Hid (wr.rangeAt b (off + j * 33) us) := hid hrg
          have HU := hid (show us[1]? = some (.int .i64 ea) ∧ us[2]? = some (.int .i64 en) ∧ us.length = 33 from ⟨hu1, hu2, hul⟩)
          have A3 := hid (HA2.out.alloc (.cells us.toArray 75))
          have pb := World.alloc_heap_new wr (.cells us.toArray 75)
          have P0 : (wr.alloc (.cells us.toArray 75)).cell? ⟨wr.heap.size, 0, none⟩ = some (.int .i64 ek) := by rw [cell_at pb]; simpa using hu0
          have PB := hid pb
          have I75 : Hid ((Try.prog.info? 75).map (·.size) = some us.length) := hid (by rw [hul]; kernel_rfl)
          have I75' : Hid ((Try.prog.info? 75).map (·.size) = some us.toArray.size) := hid (by rw [List.size_toArray, hul]; kernel_rfl)
          have ONE : Hid (us.toArray.all (·.oneCell') = true) := hid (by simpa using h1c)
          have HSZ : Hid (us.toArray.size = 33) := hid (by simpa using hul)
          clear hA2 he hTB hTl hbw HA hrg hu0 hu1 hu2 h1c pb hul k0 k1 k2
          go_upto_region 7 with fail
          go_upto_region 8 with (first | (refine wpList_load_mid rfl 75 _ rfl b (off + j * 33) rfl us _ RG.out Try.underlying75 rfl I75.out ?_) | (refine wpList_store_row rfl 75 _ _ rfl wr.heap.size us.toArray rfl rfl 75 _ (heap_alloc_new _ _) I75'.out (by rw [HSZ.out]; rfl) ONE.out ?_; rw [World.setRow_alloc_new]))
          generalize wr.alloc (.cells us.toArray 75) = w4 at A3 P0 PB ⊢
          generalize wr.heap.size = P at P0 PB ⊢
          have CP := hid (fun (W : World) (hW : All (watchL K (.slice oo2 T.length oc2) B m D2 T [inC w]) W) => pairOf_any hW HU.out.2.2 HU.out.1 HU.out.2.1)
          clear ch1 RG I75 ONE HSZ HE HA2
          by_cases h2 : ek = 2
          · subst h2
            have CB : Hid (∀ W : World, All (watchL K (.slice oo2 T.length oc2) B m D2 T [inC w]) W → Calls Try.prog 39 #[.pointer (some ⟨K, 0, none⟩), .agg #[.int .i64 ea, .int .i64 en], .int .i64 (i : Int)] W fun e w' => e = .returned (.tuple #[]) ∧ ∃ o2 c2 n2 D3, Says D3 (wstep T 2 ea en i) ∧ n2 ≤ m + 1 ∧ All (watchL K (.slice o2 (wstep T 2 ea en i).length c2) B n2 D3 (wstep T 2 ea en i) [inC w]) w') := hid (fun W hW => begin_any hW hSy2.out hok.out.1 hok.out.2 (by omega) (by have := HTL.out; omega))
            go_wp2_with (refine wpList_load_row rfl 75 _ rfl P rfl 75 us.toArray (0, 0) _ PB.out Try.underlying75 rfl I75'.out ?_)
            refine (CP.out _ A3.out).mono ?_
            rintro e w5 ⟨rfl, A5⟩
            have CB2 := hid (CB.out _ A5)
            clear CP A3 A5 CB P0 PB I75' HU
            go_wp2_with fail
            refine CB2.out.mono ?_
            rintro e w6 ⟨rfl, o6, c6, n6, D6, hs6, hn6, A6⟩
            have A6 := hid A6
            have S6 := hid hs6
            clear CB2 hs6
            generalize wstep T 2 ea en i = U at hsn A6 S6
            go_wp2
            go_roundw
            case rel => exact ⟨j + 1, n6, o6, c6, D6, U, by omega, rfl, hid hsn.out.symm, S6, hid (by have := hm2.out; omega), A6.out⟩
            case measure => simp [intOf]; omega
          · by_cases h4 : ek = 4
            · subst h4
              have CB : Hid (∀ W : World, All (watchL K (.slice oo2 T.length oc2) B m D2 T [inC w]) W → Calls Try.prog 41 #[.pointer (some ⟨K, 0, none⟩), .agg #[.int .i64 ea, .int .i64 en], .int .i64 (i : Int)] W fun e w' => e = .returned (.tuple #[]) ∧ ∃ o2 c2 n2 D3, Says D3 (wstep T 4 ea en i) ∧ n2 ≤ m + 1 ∧ All (watchL K (.slice o2 (wstep T 4 ea en i).length c2) B n2 D3 (wstep T 4 ea en i) [inC w]) w') := hid (fun W hW => end_any hW hSy2.out hok.out.1 hok.out.2 HTB.out (by omega) (by have := HTL.out; omega))
              clear h2
              go_wp2_with (refine wpList_load_row rfl 75 _ rfl P rfl 75 us.toArray (0, 0) _ PB.out Try.underlying75 rfl I75'.out ?_)
              refine (CP.out _ A3.out).mono ?_
              rintro e w5 ⟨rfl, A5⟩
              have CB2 := hid (CB.out _ A5)
              clear CP A3 A5 CB P0 PB I75' HU
              go_wp2_with fail
              refine CB2.out.mono ?_
              rintro e w6 ⟨rfl, o6, c6, n6, D6, hs6, hn6, A6⟩
              have A6 := hid A6
              have S6 := hid hs6
              clear CB2 hs6
              generalize wstep T 4 ea en i = U at hsn A6 S6
              go_wp2
              go_roundw
              case rel => exact ⟨j + 1, n6, o6, c6, D6, U, by omega, rfl, hid hsn.out.symm, S6, hid (by have := hm2.out; omega), A6.out⟩
              case measure => simp [intOf]; omega
            · have e2 : (ek == 2) = false := by simpa using h2
              have e4 : (ek == 4) = false := by simpa using h4
              have hst := hid (show wrow S (r.take (j + 1)) i = T by rw [hsn.out]; unfold wstep; rw [if_neg h2, if_neg h4])
              clear hsn h2 h4 CP PB I75' HU
              go_wp2
              go_roundw
              case rel => exact ⟨j + 1, m, oo2, oc2, D2, T, by omega, rfl, hid hst.out.symm, hSy2, hid (by have := hm2.out; omega), A3.out⟩
              case measure => simp [intOf]; omega
        · obtain rfl : j = r.length := by omega
          rw [List.take_length] at hT
          have hfin : Hid (T = wall (H.take (i + 1))) := hid (by rw [take_snocG HR.out, wall_snoc, hT.out, hS.out, List.length_take, Nat.min_eq_left (by omega)])
          have hB2 : Hid (Beg T ((i + 1 : Nat) : Int)) := hid (by rw [hT.out]; exact (hB.out.row (by omega) _).mono (by omega))
          have hm4 : Hid (m ≤ tot (H.take (i + 1))) := hid (by rw [take_snocG HR.out, tot_snoc]; exact hm2.out)
          clear hA2 hbw HA
          go_wp2
          go_roundw
          case rel => exact ⟨i + 1, m, oo2, oc2, D2, T, by omega, rfl, hfin, hB2, hSy2, hm4, HA2.out⟩
          case measure => simp [intOf]; omega
    · obtain rfl : i = H.length := by omega
      rw [List.take_length] at hS
      have hSl : S.length ≤ 1048576 := by rw [hS.out]; exact Nat.le_trans (wall_len H) ht
      have CE := hid (ended_any HA.out (by omega))
      clear hbw0
      go_wp2_with fail
      refine CE.out.mono ?_
      rintro e w2 ⟨o2, c2, rfl, hA5⟩
      have HA5 := hid hA5
      clear CE HA hA5
      go_wp2
      rw [hQ.out, ← hS.out]
      exact ⟨o2, c2, rfl, HA5.out.keep1⟩
end Go.Proofs.Ytkaigmoeagjjgaa

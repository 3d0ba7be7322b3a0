import Derived.Test.YthnccpbgccmapabDoorStrm
import Derived.Test.YthnccpbgccmapabDoorTold1
import Derived.Test.YthnccpbgccmapabDoorKeep
namespace Go.Proofs.YthnccpbgccmapabDoor
open Go.RowKit
set_option linter.unusedVariables false
attribute [local go_sem ↓] Go.wp_at_zero Go.wp_at_succ

theorem Str.junk {P : Nat} {c : UInt8} {ps : List (List UInt8)} {L : Nat} {cs : List Comp} {w w0 : World} {bv : Value} (h : Str P [] ps L cs w) (hin : inC w0 ∈ cs) (hT : Tab w0) (hb : Reads w bv [c]) (hc : c ≠ 70) (hvl : ps.length ≤ 549755813888) (hL : L ≤ 1099511627776) :
    Calls Tryd.prog 12 #[.pointer (some ⟨P, 0, none⟩), bv] w fun e w' => e = .returned (.tuple #[]) ∧ Str P [] ps (L + 1) cs w' := by
  refine (h.feed hin hT hb (by simp) hvl hL).mono ?_
  rintro e w' ⟨he, h'⟩
  rw [List.nil_append, fin_junk hc, List.append_nil] at h'
  exact ⟨he, h'⟩

theorem Str.sealed {P : Nat} {p : List UInt8} {ps : List (List UInt8)} {L : Nat} {cs : List Comp} {w w0 : World} {bv : Value} (h : Str P [] ps L cs w) (hin : inC w0 ∈ cs) (hT : Tab w0) (hb : Reads w bv (sealP p)) (hp : p.length ≤ 65536) (hvl : ps.length ≤ 549755813888) (hL : L ≤ 1099511627776) :
    Calls Tryd.prog 12 #[.pointer (some ⟨P, 0, none⟩), bv] w fun e w' => e = .returned (.tuple #[]) ∧ Str P [] (ps ++ [p]) L cs w' := by
  refine (h.feed hin hT hb (by rw [sealP_length]; simp; omega) hvl hL).mono ?_
  rintro e w' ⟨he, h'⟩
  rw [List.nil_append, fin_seal p hp, Nat.add_zero] at h'
  exact ⟨he, h'⟩

theorem Str.slAppend {P : Nat} {X : List UInt8} {ps : List (List UInt8)} {L : Nat} {v v' x : Value} {vs : List Value} {cs : List Comp} {w w1 : World} {base : Nat} (h : Str P X ps L (slC v vs :: cs) w) (hown : w1.ownsRow base 26 1 v' (vs.length + 1) (vs ++ [x])) (hg : w.grownBy w1 v.ownBlock) (hat : v'.ownBlock = v.ownBlock ∨ v'.ownBlock = some w.heap.size) : Str P X ps L (slC v' (vs ++ [x]) :: cs) w1 := by
  obtain ⟨s, hs, hA⟩ := h
  exact ⟨s, hs, ((hA.perm List.perm_middle).sl_append hown hg hat).perm List.perm_middle.symm⟩

/-- How many bytes are still to come. -/
def remN (ls : List (List UInt8)) (i : Nat) : Nat := ((ls.drop i).map List.length).sum
theorem remN_at {ls : List (List UInt8)} {i : Nat} {l : List UInt8} (h : ls[i]? = some l) : remN ls i = l.length + remN ls (i + 1) := by
  obtain ⟨hi, e⟩ := List.getElem?_eq_some_iff.1 h
  unfold remN
  rw [List.drop_eq_getElem_cons hi, e]
  simp
theorem remN_out {ls : List (List UInt8)} {i : Nat} (h : ls.length ≤ i) : remN ls (i + 1) = remN ls i := by
  unfold remN
  rw [List.drop_eq_nil_of_le h, List.drop_eq_nil_of_le (by omega)]

/-- What was wanted. -/
def Wants (w : World) (us : List Value) (ps : List (List UInt8)) : Prop := us.length = ps.length ∧ (∀ (j : Nat) u p, us[j]? = some u → ps[j]? = some p → Reads w u p) ∧ ∀ p ∈ ps, p.length ≤ 65536

theorem Wants.snoc {w : World} {us : List Value} {ps : List (List UInt8)} {u : Value} {p : List UInt8} (h : Wants w us ps) (hr : Reads w u p) (hl : p.length ≤ 65536) : Wants w (us ++ [u]) (ps ++ [p]) := by
  refine ⟨by simp [h.1], fun j a b ha hb => ?_, fun x hx => (List.mem_append.1 hx).elim (h.2.2 x) (fun e => by simp at e; subst e; exact hl)⟩
  have h1 := h.1
  by_cases hj : j < us.length
  · rw [List.getElem?_append_left hj] at ha
    rw [List.getElem?_append_left (by omega)] at hb
    exact h.2.1 j a b ha hb
  · have hj' := (List.getElem?_eq_some_iff.1 ha).1
    simp at hj'
    have : j = us.length := by omega
    subst this
    rw [List.getElem?_append_right (by omega)] at ha
    rw [List.getElem?_append_right (by omega), ← h1] at hb
    simp at ha hb
    subst ha hb
    exact hr

/-- What is known on the way. -/
def RowR (w : World) (P : Nat) (wv : Value) (us : List Value) (ps : List (List UInt8)) (J : Nat) (wr : World) : Prop := Str P [] ps J [slC wv us, inC w] wr ∧ Wants w us ps

theorem RowR.form {w : World} {P : Nat} {wv : Value} {us : List Value} {ps : List (List UInt8)} {J : Nat} {wr : World} (h : RowR w P wv us ps J wr) : ∃ ao c, wv = .slice ao us.length c :=
  owns_form (h.1.mem (c := slC wv us) (by simp) : wr.ownsRow 0 26 1 wv us.length us)


theorem owns_cell26 {w : World} {base : Nat} {ao : Option Addr} {n c : Nat} {us : List Value} (h : w.ownsRow base 26 1 (.slice ao n c) us.length us) {k : Nat} {u : Value} (hu : us[k]? = some u) : ∃ g, ao = some ⟨g, 0, none⟩ ∧ w.cell? ⟨g, k, none⟩ = some u := by
  have hk := (List.getElem?_eq_some_iff.1 hu).1
  rcases h.2 with ⟨e, e2⟩ | ⟨g, cap, cur, e, _, hg, hn, hm, hcs, ht⟩
  · omega
  · simp only [Value.slice.injEq] at e
    refine ⟨g, e.1, ?_⟩
    rw [cell_at hg, ← Array.getElem?_toList]
    rw [← ht, List.getElem?_take, if_pos (by omega)] at hu
    exact hu

theorem empty_row {w : World} : (w.alloc (.cells #[] 26)).ownsRow w.heap.size 26 1 (.slice (some ⟨w.heap.size, 0, none⟩) 0 0) 0 [] :=
  ⟨by simp, Or.inr ⟨w.heap.size, 0, #[], rfl, Nat.le_refl _, heap_alloc_new w _, by omega, by unfold maxLen; omega, rfl, rfl⟩⟩

theorem row_start {w w2 : World} {P : Nat} (h : Str P [] [] 0 [inC w] w2) : RowR w P (.slice (some ⟨w2.heap.size, 0, none⟩) 0 0) [] [] 0 (w2.alloc (.cells #[] 26)) := by
  obtain ⟨v, hv, hA⟩ := h
  refine ⟨⟨v, hv, ?_⟩, rfl, fun j u p hu => by simp at hu, fun p hp => by simp at hp⟩
  have h1 : All (slC (.slice (some ⟨w2.heap.size, 0, none⟩) 0 0) [] :: (strC P [] [] 0 v ++ [inC w])) (w2.alloc (.cells #[] 26)) := by
    refine hA.add (Fr.below (ba w2 _)) (slC_good _ _) ?_ (fun k hk => ?_)
    · exact ⟨by simp, empty_row.2.imp id (fun ⟨g, cap, cur, e, _, r⟩ => ⟨g, cap, cur, e, Nat.zero_le _, r⟩)⟩
    · have : k = w2.heap.size := by simpa [slC, Value.ownBlock] using hk
      subst this
      exact ⟨Nat.le_refl _, by simp⟩
  exact h1.perm List.perm_middle.symm

set_option maxHeartbeats 12800000 in
set_option maxRecDepth 1000000 in
theorem sealRow_walk {w : World} {v0 v1 : Value} {ls ms : List (List UInt8)} (hT : Tab w) (h0 : Lists w v0 ls) (h1 : Lists w v1 ms) (hz0 : ls.length ≤ 1048576 ∧ ∀ l ∈ ls, l.length ≤ 1048576) (hz1 : ms.length ≤ 1048576 ∧ remN ms 0 ≤ 1048576) :
    Calls Tryd.prog 5 #[v0, v1] w fun e w' => e = .returned (.bool true) ∧ Below w.heap.size w w' := by
  obtain ⟨i0, hi, hzz0, hzz1, hzz2⟩ := info_parts Tryd.info26
  obtain ⟨a0, c0, e0⟩ := h0.form
  obtain ⟨a1, c1, e1⟩ := h1.form
  subst e0 e1
  have H0 := hid h0
  have H1 := hid h1
  have HT := hid hT
  obtain ⟨hn0, hz0⟩ := hz0
  obtain ⟨hn1, hz1⟩ := hz1
  have HZ := hid hz0
  clear h0 h1 hT hz0
  go_enter Tryd.func5, Tryd.ntmps5
  go_wp2_with fail
  refine (shown_any HT.out).mono ?_
  rintro e w1 ⟨rfl, hb1⟩
  have A1 := hid ((All.came w).later hb1)
  clear hb1
  go_wp2_with fail
  refine (Str.new A1.out).mono ?_
  rintro e w2 ⟨P, rfl, hs2⟩
  have S2 := hid hs2
  clear hs2 A1
  go_wp2
  go_loopw [6, 7, 8] (fun wv jv iv wr => ∃ (i J : Nat) (us : List Value) (ps : List (List UInt8)), jv = .int .i64 (J : Int) ∧ iv = .int .i64 (i : Int) ∧ i ≤ 1048576 ∧ ps.length ≤ i ∧ J + remN ms i ≤ 1048576 ∧ Hid (RowR w P wv us ps J wr)) (fun _ _ iv _ => 1048576 - (intOf iv).toNat)
  case atStart => exact ⟨0, 0, [], [], rfl, rfl, by omega, by simp, by omega, hid (row_start S2.out)⟩
  case round =>
    obtain ⟨i, J, us, ps, rfl, rfl, hib, hpl, hJ, RR⟩ := hrel
    obtain ⟨wa, wc, rfl⟩ := RR.out.form
    clear S2
    by_cases h0 : i < ls.length
    · by_cases h1 : i < ms.length
      · skip
        obtain ⟨lm, hlm⟩ : ∃ l, ms[i]? = some l := ⟨_, List.getElem?_eq_getElem h1⟩
        obtain ⟨mg, mo, mu, hma, hmg, hmc, hmr⟩ := H1.out.at hlm
        subst hma
        obtain ⟨mua, muc, hmu⟩ := hmr.form
        subst hmu
        have hrem := remN_at hlm
        have MR := hid hmr
        have MC := hid hmc
        clear hmr hmc hlm
        go_wp2
        go_loopw [7, 9] (fun jv kv wq => ∃ (k J' : Nat), jv = .int .i64 (J' : Int) ∧ kv = .int .i64 (k : Int) ∧ k ≤ lm.length ∧ J' + (lm.length - k) + remN ms (i + 1) ≤ 1048576 ∧ Hid (RowR w P (.slice wa us.length wc) us ps J' wq)) (fun _ kv _ => lm.length - (intOf kv).toNat)
        case atStart => exact ⟨0, J, rfl, rfl, by omega, by omega, RR⟩
        case round =>
          obtain ⟨k, J', rfl, rfl, hk, hJ', RQ⟩ := hrel
          have hmcq : wr.cell? ⟨mg, mo + i, none⟩ = some (.slice mua lm.length muc) := cell_under (RQ.out.1.into (by simp)) hmg MC.out
          by_cases hlt : k < lm.length
          · obtain ⟨bg, bo, hba, hbc⟩ := MR.out.at_u8 k hlt
            subst hba
            have hbq : wr.cell? ⟨bg, bo + k, none⟩ = some (.int .u8 ((lm.getD k 0).toNat : Int)) := cell_under (RQ.out.1.into (by simp)) (MR.out.lt (by omega)) hbc
            have hcap := MR.out.cap.1
            have RB := hid (fun c' h => (MR.out.under (RQ.out.1.into (by simp))).one k hlt rfl c' h)
            have hcn := (lm.getD k 0).toNat_lt
            by_cases hc : lm.getD k 0 = 70
            · rw [hc] at hbq
              clear RB hbc hcn
              have hbq : wr.cell? ⟨bg, bo + k, none⟩ = some (.int .u8 70) := hbq
              go_wp2
              go_roundw
              case rel => exact ⟨k + 1, J', rfl, by go_num, by omega, by omega, RQ⟩
              case measure => simp [intOf]; omega
            · have hne : ¬ ((lm.getD k 0).toNat : Int) = 70 := fun e => hc (UInt8.toNat_inj.1 (by have : (70 : UInt8).toNat = 70 := rfl; omega))
              have RB := hid (show ∀ c', 1 ≤ c' → Reads wr (.slice (some ⟨bg, bo + k, none⟩) 1 c') [lm.getD k 0] from RB.out)
              have HC := hid hc
              generalize lm.getD k 0 = c at *
              clear hc hbc
              go_wp2_with fail
              refine (Str.junk RQ.out.1 (by simp) HT.out (RB.out _ (by omega)) HC.out (by omega) (by omega)).mono ?_
              rintro e w5 ⟨rfl, hs5⟩
              have R5 := hid (show RowR w P (.slice wa us.length wc) us ps (J' + 1) w5 from ⟨hs5, RQ.out.2⟩)
              clear hs5 hbq hmcq
              go_wp2
              go_roundw
              case rel => exact ⟨k + 1, J' + 1, by go_num, by go_num, by omega, by omega, R5⟩
              case measure => simp [intOf]; omega
          · clear RR
            obtain ⟨lp, hlp⟩ : ∃ l, ls[i]? = some l := ⟨_, List.getElem?_eq_getElem h0⟩
            obtain ⟨pg, po, pu, hpa, hpg, hpc, hpr⟩ := H0.out.at hlp
            subst hpa
            obtain ⟨pua, puc, hpu⟩ := hpr.form
            subst hpu
            have hplen := HZ.out lp (List.mem_of_getElem? hlp)
            have hpcW : wr.cell? ⟨pg, po + i, none⟩ = some (.slice pua lp.length puc) := cell_under (RQ.out.1.into (by simp)) hpg hpc
            have PR := hid hpr
            have PC := hid hpc
            have hul : us.length ≤ 1048576 := by have := RQ.out.2.1; omega
            clear hpr hpc hlp
            by_cases hlong : lp.length ≤ 65536
            · go_wp2_with fail
              refine (Seal_any (HT.out.below (RQ.out.1.into (by simp))) (PR.out.under (RQ.out.1.into (by simp))) (by omega)).mono ?_
              have hse : sealA lp = (sealP lp, 0) := if_neg (by omega)
              rw [hse]
              rintro e w6 ⟨v6, rfl, hown6, hb6⟩
              obtain ⟨x6, y6, hv6⟩ := owns_form hown6
              subst hv6
              have S6 := hid (RQ.out.1.later hb6)
              have R6 := hid (Reads.of_owns hown6)
              clear hown6 hb6 hpcW hse
              go_wp2_with fail
              refine (Str.sealed S6.out (by simp) HT.out R6.out hlong (by omega) (by omega)).mono ?_
              rintro e w7 ⟨rfl, hs7⟩
              have S7 := hid hs7
              have hrow : w7.ownsRow 0 26 1 (.slice wa us.length wc) us.length us := hs7.mem (c := slC _ us) (by simp)
              have hpc7 : w7.cell? ⟨pg, po + i, none⟩ = some (.slice pua lp.length puc) := cell_under (S7.out.into (by simp)) hpg PC.out
              clear hs7 S6 R6
              go_wp2_with (at_builtin; refine wpList_append_own_at _ rfl (.tmp 95) (.tmp 100) 29 rfl 0 26 i0 (.slice none 0 0) 1 24 Tryd.underlying29 hi hzz0 hzz1 hzz2 rfl (by decide) _ _ _ rfl (hrow.alloc _) ⟨w7.heap.size, 0, none⟩ 1 1 [.slice pua lp.length puc] rfl rfl (cell_one_new _ _ _) (fun u hu => by simp at hu; subst hu; rfl) (by unfold maxLen; omega) (by omega) (by omega) ?_)
              intro wv' w8 hown hgr hnil hat
              have S8 := hid (Str.slAppend (S7.out.later (ba w7 (.cells #[.slice pua lp.length puc] 26))) hown hgr (by simpa using hat))
              obtain ⟨wa', wc', hwv⟩ := owns_form hown
              subst hwv
              clear hown hgr hnil hat hrow hpc7 S7
              go_wp2
              go_roundw
              case rel => exact ⟨i + 1, J', us ++ [.slice pua lp.length puc], ps ++ [lp], rfl, by go_num, by omega, by simp; omega, by omega, hid ⟨S8.out, RQ.out.2.snoc PR.out hlong⟩⟩
              case measure => simp [intOf]; omega
            · go_wp2
              go_roundw
              case rel => exact ⟨i + 1, J', us, ps, rfl, by go_num, by omega, by omega, by omega, RQ⟩
              case measure => simp [intOf]; omega
      · have hrem := remN_out (ls := ms) (i := i) (by omega)
        obtain ⟨J', hJJ⟩ : ∃ J', J' = J := ⟨J, rfl⟩
        subst hJJ
        have RQ := hid RR.out
        clear RR
        obtain ⟨lp, hlp⟩ : ∃ l, ls[i]? = some l := ⟨_, List.getElem?_eq_getElem h0⟩
        obtain ⟨pg, po, pu, hpa, hpg, hpc, hpr⟩ := H0.out.at hlp
        subst hpa
        obtain ⟨pua, puc, hpu⟩ := hpr.form
        subst hpu
        have hplen := HZ.out lp (List.mem_of_getElem? hlp)
        have hpcW : wr.cell? ⟨pg, po + i, none⟩ = some (.slice pua lp.length puc) := cell_under (RQ.out.1.into (by simp)) hpg hpc
        have PR := hid hpr
        have PC := hid hpc
        have hul : us.length ≤ 1048576 := by have := RQ.out.2.1; omega
        clear hpr hpc hlp
        by_cases hlong : lp.length ≤ 65536
        · go_wp2_with fail
          refine (Seal_any (HT.out.below (RQ.out.1.into (by simp))) (PR.out.under (RQ.out.1.into (by simp))) (by omega)).mono ?_
          have hse : sealA lp = (sealP lp, 0) := if_neg (by omega)
          rw [hse]
          rintro e w6 ⟨v6, rfl, hown6, hb6⟩
          obtain ⟨x6, y6, hv6⟩ := owns_form hown6
          subst hv6
          have S6 := hid (RQ.out.1.later hb6)
          have R6 := hid (Reads.of_owns hown6)
          clear hown6 hb6 hpcW hse
          go_wp2_with fail
          refine (Str.sealed S6.out (by simp) HT.out R6.out hlong (by omega) (by omega)).mono ?_
          rintro e w7 ⟨rfl, hs7⟩
          have S7 := hid hs7
          have hrow : w7.ownsRow 0 26 1 (.slice wa us.length wc) us.length us := hs7.mem (c := slC _ us) (by simp)
          have hpc7 : w7.cell? ⟨pg, po + i, none⟩ = some (.slice pua lp.length puc) := cell_under (S7.out.into (by simp)) hpg PC.out
          clear hs7 S6 R6
          go_wp2_with (at_builtin; refine wpList_append_own_at _ rfl (.tmp 95) (.tmp 100) 29 rfl 0 26 i0 (.slice none 0 0) 1 24 Tryd.underlying29 hi hzz0 hzz1 hzz2 rfl (by decide) _ _ _ rfl (hrow.alloc _) ⟨w7.heap.size, 0, none⟩ 1 1 [.slice pua lp.length puc] rfl rfl (cell_one_new _ _ _) (fun u hu => by simp at hu; subst hu; rfl) (by unfold maxLen; omega) (by omega) (by omega) ?_)
          intro wv' w8 hown hgr hnil hat
          have S8 := hid (Str.slAppend (S7.out.later (ba w7 (.cells #[.slice pua lp.length puc] 26))) hown hgr (by simpa using hat))
          obtain ⟨wa', wc', hwv⟩ := owns_form hown
          subst hwv
          clear hown hgr hnil hat hrow hpc7 S7
          go_wp2
          go_roundw
          case rel => exact ⟨i + 1, J', us ++ [.slice pua lp.length puc], ps ++ [lp], rfl, by go_num, by omega, by simp; omega, by omega, hid ⟨S8.out, RQ.out.2.snoc PR.out hlong⟩⟩
          case measure => simp [intOf]; omega
        · go_wp2
          go_roundw
          case rel => exact ⟨i + 1, J', us, ps, rfl, by go_num, by omega, by omega, by omega, RQ⟩
          case measure => simp [intOf]; omega
    · by_cases h1 : i < ms.length
      · skip
        obtain ⟨lm, hlm⟩ : ∃ l, ms[i]? = some l := ⟨_, List.getElem?_eq_getElem h1⟩
        obtain ⟨mg, mo, mu, hma, hmg, hmc, hmr⟩ := H1.out.at hlm
        subst hma
        obtain ⟨mua, muc, hmu⟩ := hmr.form
        subst hmu
        have hrem := remN_at hlm
        have MR := hid hmr
        have MC := hid hmc
        clear hmr hmc hlm
        go_wp2
        go_loopw [7, 9] (fun jv kv wq => ∃ (k J' : Nat), jv = .int .i64 (J' : Int) ∧ kv = .int .i64 (k : Int) ∧ k ≤ lm.length ∧ J' + (lm.length - k) + remN ms (i + 1) ≤ 1048576 ∧ Hid (RowR w P (.slice wa us.length wc) us ps J' wq)) (fun _ kv _ => lm.length - (intOf kv).toNat)
        case atStart => exact ⟨0, J, rfl, rfl, by omega, by omega, RR⟩
        case round =>
          obtain ⟨k, J', rfl, rfl, hk, hJ', RQ⟩ := hrel
          have hmcq : wr.cell? ⟨mg, mo + i, none⟩ = some (.slice mua lm.length muc) := cell_under (RQ.out.1.into (by simp)) hmg MC.out
          by_cases hlt : k < lm.length
          · obtain ⟨bg, bo, hba, hbc⟩ := MR.out.at_u8 k hlt
            subst hba
            have hbq : wr.cell? ⟨bg, bo + k, none⟩ = some (.int .u8 ((lm.getD k 0).toNat : Int)) := cell_under (RQ.out.1.into (by simp)) (MR.out.lt (by omega)) hbc
            have hcap := MR.out.cap.1
            have RB := hid (fun c' h => (MR.out.under (RQ.out.1.into (by simp))).one k hlt rfl c' h)
            have hcn := (lm.getD k 0).toNat_lt
            by_cases hc : lm.getD k 0 = 70
            · rw [hc] at hbq
              clear RB hbc hcn
              have hbq : wr.cell? ⟨bg, bo + k, none⟩ = some (.int .u8 70) := hbq
              go_wp2
              go_roundw
              case rel => exact ⟨k + 1, J', rfl, by go_num, by omega, by omega, RQ⟩
              case measure => simp [intOf]; omega
            · have hne : ¬ ((lm.getD k 0).toNat : Int) = 70 := fun e => hc (UInt8.toNat_inj.1 (by have : (70 : UInt8).toNat = 70 := rfl; omega))
              have RB := hid (show ∀ c', 1 ≤ c' → Reads wr (.slice (some ⟨bg, bo + k, none⟩) 1 c') [lm.getD k 0] from RB.out)
              have HC := hid hc
              generalize lm.getD k 0 = c at *
              clear hc hbc
              go_wp2_with fail
              refine (Str.junk RQ.out.1 (by simp) HT.out (RB.out _ (by omega)) HC.out (by omega) (by omega)).mono ?_
              rintro e w5 ⟨rfl, hs5⟩
              have R5 := hid (show RowR w P (.slice wa us.length wc) us ps (J' + 1) w5 from ⟨hs5, RQ.out.2⟩)
              clear hs5 hbq hmcq
              go_wp2
              go_roundw
              case rel => exact ⟨k + 1, J' + 1, by go_num, by go_num, by omega, by omega, R5⟩
              case measure => simp [intOf]; omega
          · clear RR
            go_wp2
            go_roundw
            case rel => exact ⟨i + 1, J', us, ps, rfl, by go_num, by omega, by omega, by omega, RQ⟩
            case measure => simp [intOf]; omega
      · go_wp2
        go_loopw [12] (fun kv wq => ∃ k : Nat, kv = .int .i64 (k : Int) ∧ k ≤ us.length ∧ Hid (Str P [] (ps.drop k) J [slC (.slice wa us.length wc) us, inC w] wq)) (fun kv _ => us.length - (intOf kv).toNat)
        case atStart => exact ⟨0, rfl, by omega, hid RR.out.1⟩
        case round =>
          obtain ⟨k, rfl, hk, RS⟩ := hrel
          have hul : us.length ≤ 1048576 := by have := RR.out.2.1; omega
          by_cases hlt : k < us.length
          · obtain ⟨p, hp⟩ : ∃ p, ps[k]? = some p := ⟨_, List.getElem?_eq_getElem (by have := RR.out.2.1; omega)⟩
            obtain ⟨u, hu⟩ : ∃ u, us[k]? = some u := ⟨_, List.getElem?_eq_getElem hlt⟩
            have hd : ps.drop k = p :: ps.drop (k + 1) := by
              obtain ⟨hh, e⟩ := List.getElem?_eq_some_iff.1 hp
              rw [List.drop_eq_getElem_cons hh, e]
            have hru := RR.out.2.2.1 k u p hu hp
            obtain ⟨ua, uc, hue⟩ := hru.form
            subst hue
            have RS2 := hid (hd ▸ RS.out)
            have RU := hid hru
            have HU := hid hu
            have hpb : p.length ≤ 140737488355328 := by have := RR.out.2.2.2 p (List.mem_of_getElem? hp); omega
            clear hd hp hru hu
            go_wp2_with fail
            refine (Str.next RS2.out (by have := RR.out.2.1; simp; omega)).mono ?_
            rintro e w6 ⟨v6, rfl, hs6⟩
            have hr6 : w6.ownsRow 0 5 1 v6 p.length (cellsB p) := hs6.mem (c := rowC v6 p) (by simp)
            obtain ⟨x6, y6, hv6⟩ := owns_form hr6
            subst hv6
            have R6 := hid (Reads.of_owns hr6)
            have S6 := hid hs6
            obtain ⟨gw, hgw, hcw⟩ := owns_cell26 (hs6.mem (c := slC (.slice wa us.length wc) us) (by simp)) HU.out
            subst hgw
            have U6 := hid (RU.out.under (S6.out.into (w0 := w) (by simp)))
            clear hr6 hs6 RS2
            go_wp2_with fail
            refine (same_q R6.out U6.out hpb).mono ?_
            rintro e w7 ⟨rfl, q7, hq7⟩
            have S7 := hid (show Str P [] (ps.drop (k + 1)) J [slC (.slice (some ⟨gw, 0, none⟩) us.length wc) us, inC w] w7 from hq7 ▸ S6.out.drop.drewN q7)
            clear hq7 S6 R6 U6 hcw
            go_wp2
            go_roundw
            case rel => exact ⟨k + 1, by go_num, by omega, S7⟩
            case measure => simp [intOf]; omega
          · have hke : k = us.length := by omega
            have S5 := hid (show Str P [] [] J [slC (.slice wa us.length wc) us, inC w] wr from by
              have := RS.out
              rw [List.drop_eq_nil_of_le (by have := RR.out.2.1; omega)] at this
              exact this)
            clear RS RR hke
            go_wp2_with fail
            refine S5.out.empty.mono ?_
            rintro e w6 ⟨rfl, q6, hq6⟩
            have S6 := hid (show Str P [] [] J [slC (.slice wa us.length wc) us, inC w] w6 from hq6 ▸ S5.out.drewN q6)
            clear hq6 S5
            go_wp2_with fail
            refine S6.out.lost.mono ?_
            rintro e w7 ⟨rfl, q7, hq7⟩
            have S7 := hid (show Str P [] [] J [slC (.slice wa us.length wc) us, inC w] w7 from hq7 ▸ S6.out.drewN q7)
            clear hq7 S6
            go_wp2_with fail
            refine S7.out.held.mono ?_
            rintro e w8 ⟨rfl, q8, hq8⟩
            have B8 := hid (show Below w.heap.size w w8 from hq8 ▸ (S7.out.drewN q8).into (by simp))
            clear hq8 S7
            go_wp2
            go_ret
            exact ⟨rfl, B8.out⟩
end Go.Proofs.YthnccpbgccmapabDoor

import Derived.Test.YthnccpbgccmapabDoorLook2
import Derived.Test.YthnccpbgccmapabDoorCutsLaw
namespace Go.Proofs.YthnccpbgccmapabDoor
open Go.RowKit
set_option linter.unusedVariables false
attribute [local go_sem ↓] Go.wp_at_zero Go.wp_at_succ

/-- What is found so far, from a place on. -/
structure FdR (w : World) (l : List UInt8) (p L : Nat) (ps : List (List UInt8)) (ov : Value) (us : List Value) (wr : World) : Prop where
  eq : fin l = (ps ++ (fin (l.drop p)).1, L + (fin (l.drop p)).2.1, (fin (l.drop p)).2.2)
  len : us.length = ps.length
  all : All (slC ov us :: (rowsP us ps ++ [inC w])) wr

theorem lists_of {w : World} {ov : Value} {us : List Value} {ps : List (List UInt8)} {cs : List Comp} (h : All (slC ov us :: (rowsP us ps ++ cs)) w) (hl : us.length = ps.length) : Lists w ov ps := by
  have ho : w.ownsRow 0 26 1 ov us.length us := h.1.2.1
  obtain ⟨ao, c, rfl⟩ := owns_form ho
  refine ⟨ao, c, by rw [hl], ?_⟩
  cases us with
  | nil => left; exact List.eq_nil_of_length_eq_zero (by simpa using hl.symm)
  | cons u us =>
    right
    obtain ⟨g, rfl, hc0⟩ := owns_cell26 ho (k := 0) (u := u) rfl
    refine ⟨g, 0, rfl, World.block_lt_of_cell? w _ hc0, fun i l hi => ?_⟩
    have hil := (List.getElem?_eq_some_iff.1 hi).1
    obtain ⟨v, hv⟩ : ∃ v, (u :: us)[i]? = some v := ⟨_, List.getElem?_eq_getElem (by rw [hl]; exact hil)⟩
    obtain ⟨g', e, hcv⟩ := owns_cell26 ho hv
    cases e
    refine ⟨v, by rw [Nat.zero_add]; exact hcv, ?_⟩
    have : w.ownsRow 0 5 1 v l.length (cellsB l) := (h.mem (c := rowC v l) (List.mem_cons_of_mem _ (List.mem_append_left _ (rowsP_mem hv hi)))).2.1
    exact Reads.of_owns this

theorem FdR.start {w : World} {l : List UInt8} : FdR w l 0 0 [] (.slice (some ⟨w.heap.size, 0, none⟩) 0 0) [] (w.alloc (.cells #[] 26)) := by
  refine ⟨by simp, rfl, ?_⟩
  refine (All.came w).add (Fr.below (ba w _)) (slC_good _ _) ?_ (fun k hk => ?_)
  · exact ⟨by simp, empty_row.2.imp id (fun ⟨g, cap, cur, e, _, r⟩ => ⟨g, cap, cur, e, Nat.zero_le _, r⟩)⟩
  · have : k = w.heap.size := by simpa [slC, Value.ownBlock] using hk
    subst this
    exact ⟨Nat.le_refl _, by simp⟩

theorem FdR.into {w wr : World} {l : List UInt8} {p L : Nat} {ps : List (List UInt8)} {ov : Value} {us : List Value} (h : FdR w l p L ps ov us wr) : Below w.heap.size w wr := (h.all.mem (c := inC w) (by simp)).2.1

theorem FdR.bad {w wr w' : World} {l : List UInt8} {p L : Nat} {ps : List (List UInt8)} {ov : Value} {us : List Value} (h : FdR w l p L ps ov us wr) (hp : p < l.length) (hs : scan .init (l.drop p) = .bad) (hb : Below wr.heap.size wr w') : FdR w l (p + 1) (L + 1) ps ov us w' := by
  refine ⟨?_, h.len, h.all.later hb⟩
  have e : l.drop p = l[p] :: l.drop (p + 1) := List.drop_eq_getElem_cons hp
  rw [h.eq]
  rw [e] at hs
  rw [e, fin_bad hs]
  simp only [Prod.mk.injEq, true_and, and_true]
  omega

theorem FdR.later {w wr w' : World} {l : List UInt8} {p L : Nat} {ps : List (List UInt8)} {ov : Value} {us : List Value} (h : FdR w l p L ps ov us wr) (hb : Below wr.heap.size wr w') : FdR w l p L ps ov us w' := ⟨h.eq, h.len, h.all.later hb⟩

theorem FdR.whole {w wr w2 w3 : World} {l : List UInt8} {p L n : Nat} {ps : List (List UInt8)} {ov ov' v : Value} {us : List Value} {base : Nat} (h : FdR w l p L ps ov us wr) (hs : scan .init (l.drop p) = .whole n) (hb : Below wr.heap.size wr w2) (ho : w2.ownsRow wr.heap.size 5 1 v (((l.drop p).drop 9).take n).length (cellsB (((l.drop p).drop 9).take n))) (hown : w3.ownsRow base 26 1 ov' (us.length + 1) (us ++ [v])) (hg : (w2.alloc (.cells #[v] 26)).grownBy w3 ov.ownBlock) (hat : ov'.ownBlock = ov.ownBlock ∨ ov'.ownBlock = some (w2.alloc (.cells #[v] 26)).heap.size) : FdR w l (p + (n + 13)) L (ps ++ [((l.drop p).drop 9).take n]) ov' (us ++ [v]) w3 := by
  refine ⟨?_, by simp [h.len], ?_⟩
  · rw [h.eq, fin_whole hs, List.drop_drop]
    simp
  · have h1 := (h.all.addRow hb ho).swap
    have h2 := (h1.later (ba w2 (.cells #[v] 26))).sl_append hown hg hat
    refine h2.perm (List.Perm.cons _ ?_)
    rw [rowsP_app h.len]
    show (rowC v _ :: (rowsP us ps ++ [inC w])).Perm ((rowsP us ps ++ [rowC v _]) ++ [inC w])
    rw [List.append_assoc]
    exact List.perm_middle.symm

theorem FdR.lens {w wr : World} {l : List UInt8} {p L : Nat} {ps : List (List UInt8)} {ov : Value} {us : List Value} (h : FdR w l p L ps ov us wr) : us.length ≤ l.length ∧ L ≤ l.length := by
  have h1 := fin_rest_le l
  rw [h.eq] at h1
  simp at h1
  have := h.len
  omega

set_option maxHeartbeats 6400000 in
set_option maxRecDepth 1000000 in
theorem Found_any {w : World} {s : Value} {l : List UInt8} (h : Reads w s l) (hlen : l.length ≤ 1048576) :
    Calls Tryd.prog 24 #[s] w fun e w' => ∃ v, e = .returned (.tuple #[v, .int .i64 ((fin l).2.1 : Int), .int .i64 ((fin l).2.2.length : Int)]) ∧ ∃ us, us.length = (fin l).1.length ∧ All (slC v us :: (rowsP us (fin l).1 ++ [inC w])) w' := by
  obtain ⟨i5, hi5, hz50, hz51, hz52⟩ := info_parts Tryd.info5
  obtain ⟨i0, hi, hzz0, hzz1, hzz2⟩ := info_parts Tryd.info26
  obtain ⟨ao, c, hf⟩ := h.form
  subst hf
  have HH := hid h
  have hcap := h.cap.1
  have F0 := hid (FdR.start (w := w) (l := l))
  clear h
  go_enter Tryd.func24, Tryd.ntmps24
  go_wp2
  go_loopw [5, 6, 7] (fun ov lv pv wr => ∃ (p L : Nat) (ps : List (List UInt8)) (us : List Value), lv = .int .i64 (L : Int) ∧ pv = .int .i64 (p : Int) ∧ p ≤ l.length ∧ Hid (FdR w l p L ps ov us wr)) (fun _ _ pv _ => l.length - (intOf pv).toNat)
  case atStart => exact ⟨0, 0, [], [], rfl, rfl, by omega, F0⟩
  case round =>
    obtain ⟨p, L, ps, us, rfl, rfl, hp, FR⟩ := hrel
    clear F0
    obtain ⟨oa, oc, rfl⟩ := owns_form (FR.out.all.1.2.1 : wr.ownsRow 0 26 1 _ us.length us)
    have hll := FR.out.lens
    by_cases hlt : p < l.length
    · obtain ⟨bv, hrun, hbv⟩ := cut_from HH.out p hp
      have HL := hid (look_any (hbv.under FR.out.into) (by simp; omega))
      have hsl := scan_look (l.drop p)
      clear hbv
      go_wp2_with fail
      refine HL.out.mono ?_
      rintro e w1 ⟨rfl, q1, hq1⟩
      have B1 := hid (show Below wr.heap.size wr w1 from hq1 ▸ bdN wr q1)
      clear hq1 HL hrun
      cases hsc : scan .init (l.drop p) with
      | more s' =>
        rw [hsc] at hsl
        rw [← hsl, show ((Res.more s').lok).num = (0 : Int) from rfl]
        have HF := hid (show fin l = (ps, L, l.drop p) from by rw [FR.out.eq, fin_more hsc]; simp)
        have F1 := hid (FR.out.later B1.out)
        have hdl : ((l.drop p).length : Int) = (l.length : Int) - (p : Int) := by simp; omega
        have HDL := hid hdl
        clear hsl hsc hdl B1 FR
        go_wp2
        go_ret3
        refine ⟨.slice oa us.length oc, ?_⟩
        rw [HF.out]
        refine ⟨?_, us, F1.out.len, F1.out.all⟩
        simp only []
        rw [HDL.out]
        rfl
      | bad =>
        rw [hsc] at hsl
        rw [← hsl, show (Res.bad.lok).num = (-1 : Int) from rfl]
        have F1 := hid (FR.out.bad hlt hsc B1.out)
        clear hsl hsc B1 FR
        go_wp2
        go_roundw
        case rel => exact ⟨p + 1, L + 1, ps, us, by go_num, by go_num, by omega, F1⟩
        case measure => simp [intOf]; omega
      | whole n =>
        rw [hsc] at hsl
        rw [← hsl, show ((Res.whole n).lok).num = (n : Int) + 13 from rfl]
        have hwl := scan_whole hsc
        simp [Lk.init] at hwl
        obtain ⟨g, o, hao, _⟩ := HH.out.at_u8 0 (by omega)
        subst hao
        have F1 := hid (FR.out.later B1.out)
        have HSC := hid hsc
        have e0 : (w1.alloc (.cells #[] 5)).ownsRow w1.heap.size 5 1 (.slice (some ⟨w1.heap.size, 0, none⟩) 0 0) ([] : List UInt8).length (cellsB []) := owns_new w1 [] #[] 0 rfl rfl (by simp)
        have RP := hid (show Reads (w1.alloc (.cells #[] 5)) (.slice (some ⟨g, o + (p + 9), none⟩) (p + (n + 13) - 4 - (p + 9)) (c - (p + 9))) (((l.drop p).drop 9).take n) from by
          have h1 := (HH.out.under (F1.out.into)).below (ba w1 (.cells #[] 5))
          have h2 := h1.sub (p + 9) n (c - (p + 9)) (by omega) (by omega)
          rw [← List.drop_drop] at h2
          rw [show p + (n + 13) - 4 - (p + 9) = n by omega]
          exact h2)
        have hpl : (((l.drop p).drop 9).take n).length = n := by simp; omega
        obtain ⟨pay, hpay⟩ : ∃ pay, pay = ((l.drop p).drop 9).take n := ⟨_, rfl⟩
        rw [← hpay] at hpl RP
        have HPAY := hid hpay
        have hpb : pay.length ≤ 1048576 := by omega
        have HPL := hid hpl
        clear hpay
        have hne : ¬ c = p + 9 := by omega
        have hrow : w1.ownsRow 0 26 1 (.slice oa us.length oc) us.length us := F1.out.all.1.2.1
        clear hsl hsc B1 FR hpl
        have B0 := hid (show Below w1.heap.size w1 (w1.alloc (.cells #[] 5)) from ba w1 _)
        clear hrow
        go_wp2_with (first | (at_builtin; refine wpList_append_bytes rfl (.tmp 34) (.tmp 42) rfl w1.heap.size _ [] pay _ rfl rfl e0 RP.out (by simp; omega) (by simp) ?_; intro v2 w2 hown2 hgr2 hat2; have B2 := hid (grown_below' B0.out e0 (Nat.le_refl _) hgr2); rw [List.nil_append] at hown2; have hrow : w2.ownsRow 0 26 1 (.slice oa us.length oc) us.length us := (F1.out.later B2.out).all.1.2.1; have O2 := hid hown2; obtain ⟨x2, y2, hv2⟩ := owns_form hown2; subst hv2; clear hown2 hgr2 hat2 e0) | (at_builtin; refine wpList_append_own_at _ rfl (.tmp 44) (.tmp 46) 29 rfl 0 26 i0 (.slice none 0 0) 1 24 Tryd.underlying29 hi hzz0 hzz1 hzz2 rfl (by decide) _ _ _ rfl (hrow.alloc _) ⟨w2.heap.size, 0, none⟩ 1 1 [.slice x2 pay.length y2] rfl rfl (cell_one_new _ _ _) (fun u hu => by simp at hu; subst hu; rfl) (by unfold maxLen; omega) (by omega) (by omega) ?_; intro ov' w3 hown3 hgr3 hnil3 hat3))
        have F3 := hid (F1.out.whole HSC.out B2.out (by rw [← HPAY.out]; exact O2.out) hown3 hgr3 (show ov'.ownBlock = (Value.slice oa us.length oc).ownBlock ∨ _ from hat3))
        obtain ⟨oa3, oc3, ho3⟩ := owns_form hown3
        subst ho3
        clear hown3 hgr3 hnil3 hat3 hrow O2 B2 F1
        go_wp2
        go_roundw
        case rel => exact ⟨p + (n + 13), L, ps ++ [((l.drop p).drop 9).take n], _, rfl, by go_num, by omega, F3⟩
        case measure => simp [intOf]; omega
    · have hpe : l.drop p = [] := List.drop_eq_nil_of_le (by omega)
      have HF := hid (show fin l = (ps, L, []) from by rw [FR.out.eq, hpe]; simp [fin, fnd])
      clear hpe
      go_wp2
      go_ret3
      refine ⟨.slice oa us.length oc, ?_⟩
      rw [HF.out]
      exact ⟨rfl, us, FR.out.len, FR.out.all⟩

/-- New parts beside old ones. -/
theorem All.join {xs cs : List Comp} {w w' : World} (h : All (xs ++ [inC w]) w') (hc : All cs w) : All (xs ++ cs) w' := by
  induction xs with
  | nil => exact hc.later h.1.2.1
  | cons x xs ih =>
    obtain ⟨h1, h2, h3⟩ := h
    refine ⟨h1, fun d hd k hk hkd => ?_, ih h3⟩
    rcases List.mem_append.1 hd with hd | hd
    · exact h2 d (by simp [hd]) k hk hkd
    · have hlt := (hc.mem hd).2.2 k hkd
      exact h2 (inC w) (by simp) k hk (by simp [inC, hlt])

theorem Found_c {w : World} {s : Value} {l : List UInt8} {cs : List Comp} (h : Reads w s l) (hlen : l.length ≤ 1048576) (hc : All cs w) :
    Calls Tryd.prog 24 #[s] w fun e w' => ∃ v us, e = .returned (.tuple #[v, .int .i64 ((fin l).2.1 : Int), .int .i64 ((fin l).2.2.length : Int)]) ∧ us.length = (fin l).1.length ∧ All (slC v us :: (rowsP us (fin l).1 ++ cs)) w' := by
  refine (Found_any h hlen).mono ?_
  rintro e w' ⟨v, he, us, hl, hA⟩
  exact ⟨v, us, he, hl, All.join (xs := slC v us :: rowsP us (fin l).1) hA hc⟩
end Go.Proofs.YthnccpbgccmapabDoor

import Derived.Test.YtafickhhdemjnaaGreatDoorJ28
import Derived.Deep.RegionHeld3
namespace Go.Proofs.YtafickhhdemjnaaGreatDoor
open Go.RowKit
set_option linter.unusedVariables false
set_option maxRecDepth 100000

set_option maxRecDepth 1000000 in
set_option maxHeartbeats 6400000 in
theorem stamps_law {W : World} {ev : Int} {v : Value} {l : List En} (hT : Tab W) (hv : EntsW W v l) (hlen : l.length * 72 ≤ 140737488351232) : Calls Tryz.prog 7 #[.int .i64 ev, v] W fun e w' => e = .returned (.bool true) ∧ Below W.heap.size W w' := by
  obtain ⟨lo, lc, rfl⟩ := hv.form
  have C8 := hid (shownE_any (List.mem_cons_self) hT (All.came W))
  have HT := hid hT
  have HV := hid hv
  have HL := hid hlen
  clear hT hv
  by_cases hev : 1 ≤ ev ∧ ev ≤ 64
  case neg =>
    go_enter Tryz.func7, Tryz.ntmps7
    have C20 : ∀ w : World, Calls Tryz.prog 20 #[.int .i64 ev] w fun e w' => e = .returned (.bool false) ∧ w' = w := fun w => by
      have := mayE_any (w := w) ev
      rw [show decide (1 ≤ ev ∧ ev ≤ 64) = false by simpa using hev] at this
      exact this
    go_wp2_with (first
      | (go_at_call 8; refine C8.out.mono ?_; rintro r w1 ⟨rfl, A1⟩; have K1 := hid A1; clear A1 C8)
      | (go_at_call 20; refine (C20 _).mono ?_; rintro r w2 ⟨rfl, h2⟩; subst w2))
    go_ret
    exact ⟨rfl, K1.out.into List.mem_cons_self⟩
  obtain ⟨e1, e2⟩ := hev
  obtain ⟨n, rfl⟩ : ∃ n : Nat, ev = (n : Int) := ⟨ev.toNat, by omega⟩
  go_enter Tryz.func7, Tryz.ntmps7
  have C20 : ∀ w : World, Calls Tryz.prog 20 #[.int .i64 (n : Int)] w fun e w' => e = .returned (.bool true) ∧ w' = w := fun w => by
    have := mayE_any (w := w) (n : Int)
    rw [show decide (1 ≤ (n : Int) ∧ (n : Int) ≤ 64) = true by simp; omega] at this
    exact this
  go_upto_region 9 with (first
    | (go_at_call 8; refine C8.out.mono ?_; rintro r w1 ⟨rfl, A1⟩; have C22 := hid (run_nil (ev := n) (by omega) (by omega) A1); clear A1 C8)
    | (go_at_call 20; refine (C20 _).mono ?_; rintro r w2 ⟨rfl, h2⟩; subst w2)
    | (go_at_call 22; refine C22.out.mono ?_; rintro r w3 ⟨X, a, rfl, hO, A3⟩; have C29 := hid (Sheets_any hO A3); have HO := hid hO; clear A3 hO C22)
    | (go_at_call 29; refine C29.out.mono ?_; rintro r w4 ⟨tv, zs, rfl, hzs, A4⟩; have K4 := hid (EM.fronts (xs := rowC 78 3 tv zs.length (flatX zs) :: zs.map datC) A4); have HZ := hid hzs; clear A4 hzs C29))
  have ENT : Hid (∀ (cs : List Comp) (W' : World) (i : Nat) (x : En), All cs W' → inC W ∈ cs → l[i]? = some x → ∃ g o, lo = some ⟨g, o, none⟩ ∧
    W'.cell? ⟨g, o + i * 7, none⟩ = some (.int .i64 x.c) ∧ W'.cell? ⟨g, o + i * 7 + 1, none⟩ = some (.int .i64 x.q) ∧ W'.cell? ⟨g, o + i * 7 + 2, none⟩ = some (.int .i64 x.k) ∧ W'.cell? ⟨g, o + i * 7 + 3, none⟩ = some (.string x.nm) ∧ W'.cell? ⟨g, o + i * 7 + 4, none⟩ = some (.string x.tx) ∧ W'.cell? ⟨g, o + i * 7 + 5, none⟩ = some (.int .i64 x.n) ∧ W'.cell? ⟨g, o + i * 7 + 6, none⟩ = some (.int .i64 x.m)) := hid (fun cs W' i x h hm hx => HV.out.cells (h.into hm) hx)
  clear HV C20
  have hl : l.length ≤ 1954687338211 := by have := HL.out; omega
  have H0 : Hid (∃ (e : EM) (a : EX) (zs : List Xs), e.Ok 0 a ∧ e.Inv ∧ zs.map Xs.key = shs e.K 0 ∧ All (e.L X a ((rowC 78 3 tv zs.length (flatX zs) :: zs.map datC) ++ [inC W])) w4) := hid ⟨_, _, zs, HO.out, EM.zero_inv n, HZ.out, K4.out⟩
  clear K4 HO HZ
  go_wp2
  go_loopw [6, 7] (fun tv iv wr => ∃ (i : Nat), i ≤ l.length ∧ iv = .int .i64 (i : Int) ∧ Hid (∃ (e : EM) (a : EX) (zs : List Xs), e.Ok i a ∧ e.Inv ∧ zs.map Xs.key = shs e.K 0 ∧ All (e.L X a ((rowC 78 3 tv zs.length (flatX zs) :: zs.map datC) ++ [inC W])) wr)) (fun _ iv _ => l.length - (intOf iv).toNat)
  case atStart => exact ⟨0, by omega, rfl, H0⟩
  case round =>
    obtain ⟨i, hi, rfl, hI⟩ := hrel
    obtain ⟨e, a, zs, hO, hinv, hzs, hA⟩ := hI.out
    have HO := hid hO
    have HA := hid hA
    have HI := hid hinv
    have HZ := hid hzs
    clear hI hO hA hinv hzs H0
    by_cases hlt : i < l.length
    case neg =>
      go_wp2
      go_ret
      exact ⟨rfl, (EM.tl HA.out).into (by simp)⟩
    have XI : Hid (l[i]? = some l[i]) := hid (List.getElem?_eq_getElem hlt)
    generalize l[i] = x at XI
    have k0 : (0 : Int) ≤ (i : Int) := by omega
    have k1 : (i : Int) < (l.length : Int) := by omega
    obtain ⟨g, o, rfl, p0, p1, p2, p3, p4, p5, p6⟩ := ENT.out _ wr i x HA.out (by simp [EM.L]) XI.out
    have C26 : Hid (Calls Tryz.prog 26 #[.pointer (some ⟨X, 0, none⟩), .agg #[.int .i64 x.c, .int .i64 x.q, .int .i64 x.k, .string x.nm, .string x.tx, .int .i64 x.n, .int .i64 x.m]] wr fun r w' => ∃ e' a' xx y items fr er so sc, r = .returned (.tuple #[resV xx y (.slice so (List.length items) sc), .bool fr, .int .i64 er]) ∧ ApE e x.c x.q x.k x.nm x.tx x.n x.m e' xx y items fr er ∧ e'.Ok (i + 1) a' ∧ All (ownC 9 (.slice so items.length sc) (txtV items) :: e'.L X a' ((rowC 78 3 u6 zs.length (flatX zs) :: zs.map datC) ++ [inC W])) w') := hid (Apply_any (w0 := W) (by simp) HT.out HO.out (by omega) HA.out)
    go_upto_region 14 with (first
      | (go_at_call 26; refine C26.out.mono ?_; rintro r w6 ⟨e', a', xx, y, items, fr, er, so, sc, rfl, hAp, hO', A6⟩; have C29 := hid (Sheets_any hO' (EM.front A6)); have HO' := hid hO'; have AP := hid hAp; clear A6 hO' hAp C26)
      | (go_at_call 29; refine C29.out.mono ?_; rintro r w7 ⟨v, ys, rfl, hys, A7⟩; have K7 := hid (EM.fronts (xs := rowC 78 3 v ys.length (flatX ys) :: ys.map datC) A7); have HY := hid hys; clear A7 hys C29))
    have HI' := hid (AP.out.inv HI.out HO.out HO'.out)
    have HKK := hid (AP.out.keepK)
    have hy16 : ys.length ≤ 16 := by
      have h1 := (shs_small HO'.out.bt 0).1
      rw [← HY.out, List.length_map] at h1
      exact h1
    clear p0 p1 p2 p3 p4 p5 p6 HO
    obtain ⟨vo, vc, rfl⟩ := row_len (v := v) (ys := ys) K7.out (by simp [EM.L])
    have K8 : Hid (All (e'.L X a' ((rowC 78 3 (.slice vo ys.length vc) ys.length (flatX ys) :: ys.map datC) ++ (ownC 9 (.slice so items.length sc) (txtV items) :: ((rowC 78 3 u6 zs.length (flatX zs) :: zs.map datC) ++ [inC W])))) w7) := K7
    clear K7
    go_wp2
    go_loopw [9, 10] (fun mv kv wr => ∃ (k : Nat) (m : Int), k ≤ ys.length ∧ kv = .int .i64 (k : Int) ∧ mv = .int .i64 m ∧ (∀ y, ys[k]? = some y → m < (y.num : Int)) ∧ Hid (All (e'.L X a' ((rowC 78 3 (.slice vo ys.length vc) ys.length (flatX ys) :: ys.map datC) ++ (ownC 9 (.slice so items.length sc) (txtV items) :: ((rowC 78 3 u6 zs.length (flatX zs) :: zs.map datC) ++ [inC W])))) wr)) (fun _ kv _ => ys.length - (intOf kv).toNat)
    case atStart => exact ⟨0, -1, by omega, rfl, rfl, fun y _ => by omega, K8⟩
    case round =>
      obtain ⟨k, m, hk, rfl, rfl, hm, hK⟩ := hrel
      by_cases hkl : k < ys.length
      case neg =>
        have HK := hid hK
        have xo : wr.cell? ⟨X, 0, none⟩ = some (.int .i64 (e'.op : Int)) := cell_in (o := 0) HK.out EM.box rfl
        have xb : wr.cell? ⟨X, 4, none⟩ = some (.int .i64 (e'.kop : Int)) := cell_in (o := 4) HK.out EM.box rfl
        clear hK hm
        by_cases hb : e'.kop = e'.op
        case pos =>
          have hkey : ys.map Xs.key = shs e'.K 0 := HY.out.trans (by rw [HI'.out.eq hb])
          have d1 : ((e'.kop : Int) == (e'.op : Int)) = true := by simp; omega
          have d2 : (e'.kop == e'.op) = true := by simp; omega
          have HKY := hid hkey
          clear hkey hb
          have hin : ∀ (d : Comp), d ∈ ((rowC 78 3 (.slice vo ys.length vc) ys.length (flatX ys) :: ys.map datC) ++ (ownC 9 (.slice so items.length sc) (txtV items) :: ((rowC 78 3 u6 zs.length (flatX zs) :: zs.map datC) ++ [inC W]))) → d ∈ (e'.L X a' ((rowC 78 3 (.slice vo ys.length vc) ys.length (flatX ys) :: ys.map datC) ++ (ownC 9 (.slice so items.length sc) (txtV items) :: ((rowC 78 3 u6 zs.length (flatX zs) :: zs.map datC) ++ [inC W])))) := fun d hd => by rw [EM.L_app]; exact List.mem_append_right _ hd
          have htv : rowC 78 3 (.slice vo ys.length vc) ys.length (flatX ys) ∈ (e'.L X a' ((rowC 78 3 (.slice vo ys.length vc) ys.length (flatX ys) :: ys.map datC) ++ (ownC 9 (.slice so items.length sc) (txtV items) :: ((rowC 78 3 u6 zs.length (flatX zs) :: zs.map datC) ++ [inC W])))) := hin _ (by simp)
          have htd : ∀ d ∈ ys.map datC, d ∈ (e'.L X a' ((rowC 78 3 (.slice vo ys.length vc) ys.length (flatX ys) :: ys.map datC) ++ (ownC 9 (.slice so items.length sc) (txtV items) :: ((rowC 78 3 u6 zs.length (flatX zs) :: zs.map datC) ++ [inC W])))) := fun d hd => hin d (List.mem_append_left _ (List.mem_cons_of_mem _ hd))
          have HTV := hid htv
          have HTD := hid htd
          clear htv htd hin
          have C23 := hid (SinceE_any (at_ := 0) HO'.out HK.out)
          go_upto_region 29 with (first
            | (go_at_call 16; refine (Base_any xb).mono ?_; rintro r w8 ⟨rfl, h8⟩; subst w8)
            | (go_at_call 14; refine (Op_any xo).mono ?_; rintro r w8 ⟨rfl, h8⟩; subst w8)
            | (go_at_call 23; refine C23.out.mono ?_; rintro r w8 ⟨v2, ys2, rfl, h2, A8⟩; have C28 := hid (sameSheets_true (shw_in HO'.out.bk h2 A8 List.mem_cons_self (fun d h => List.mem_cons_of_mem _ (List.mem_append_left _ h))) (shw_in HO'.out.bk HKY.out A8 (List.mem_cons_of_mem _ (List.mem_append_right _ HTV.out)) (fun d h => List.mem_cons_of_mem _ (List.mem_append_right _ (HTD.out d h))))); have K8 := hid A8; clear A8 h2 C23)
            | (go_at_call 28; refine C28.out.mono ?_; rintro r w9 ⟨rfl, h9⟩; have K10 : Hid (All (e'.L X a' ((rowC 78 3 (.slice vo ys.length vc) ys.length (flatX ys) :: ys.map datC) ++ (ownC 9 (.slice so items.length sc) (txtV items) :: ((rowC 78 3 u6 zs.length (flatX zs) :: zs.map datC) ++ [inC W])))) w9) := hid (All.dropA (rowC 78 3 v2 ys2.length (flatX ys2) :: ys2.map datC) (All.later K8.out h9)); clear h9 C28; have xb9 : w9.cell? ⟨X, 4, none⟩ = some (.int .i64 (e'.kop : Int)) := cell_in (o := 4) K10.out EM.box rfl; have C24 := hid (SinceE_any (at_ := (e'.kop : Int)) HO'.out K10.out))
            | (go_at_call 16; refine (Base_any xb9).mono ?_; rintro r w8 ⟨rfl, h8⟩; subst w8)
            | (go_at_call 23; refine C24.out.mono ?_; rintro r w11 ⟨v3, ys3, rfl, h3, A11⟩; have hnil : ys3 = [] := (by have h4 := shs_none (a := e'.kop) HI'.out.kst; rw [Int.toNat_natCast, h4] at h3; simpa using h3); subst hnil; obtain ⟨o3, q3, rfl⟩ := row_len A11 List.mem_cons_self; have K12 : Hid (All (e'.L X a' ((rowC 78 3 (.slice vo ys.length vc) ys.length (flatX ys) :: ys.map datC) ++ (ownC 9 (.slice so items.length sc) (txtV items) :: ((rowC 78 3 u6 zs.length (flatX zs) :: zs.map datC) ++ [inC W])))) w11) := hid (All.dropA [rowC 78 3 _ 0 []] A11); clear A11 h3 C24))
          refine ⟨⟨i + 1, by omega, by go_num, hid ⟨e', a', ys, HO'.out, HI'.out, HKY.out, EM.mid (xs := (rowC 78 3 (.slice vo ys.length vc) ys.length (flatX ys) :: ys.map datC)) (zs := ownC 9 (.slice so items.length sc) (txtV items) :: (rowC 78 3 u6 zs.length (flatX zs) :: zs.map datC)) K12.out⟩⟩, ?_⟩
          simp [intOf]
          omega
        case neg =>
          have hkey : zs.map Xs.key = shs e'.K 0 := HZ.out.trans (by rw [HKK.out hb])
          have d1 : ((e'.kop : Int) == (e'.op : Int)) = false := by simp; omega
          have d2 : (e'.kop == e'.op) = false := by simp; omega
          have HKY := hid hkey
          clear hkey hb
          have hin : ∀ (d : Comp), d ∈ ((rowC 78 3 (.slice vo ys.length vc) ys.length (flatX ys) :: ys.map datC) ++ (ownC 9 (.slice so items.length sc) (txtV items) :: ((rowC 78 3 u6 zs.length (flatX zs) :: zs.map datC) ++ [inC W]))) → d ∈ (e'.L X a' ((rowC 78 3 (.slice vo ys.length vc) ys.length (flatX ys) :: ys.map datC) ++ (ownC 9 (.slice so items.length sc) (txtV items) :: ((rowC 78 3 u6 zs.length (flatX zs) :: zs.map datC) ++ [inC W])))) := fun d hd => by rw [EM.L_app]; exact List.mem_append_right _ hd
          have htv : rowC 78 3 u6 zs.length (flatX zs) ∈ (e'.L X a' ((rowC 78 3 (.slice vo ys.length vc) ys.length (flatX ys) :: ys.map datC) ++ (ownC 9 (.slice so items.length sc) (txtV items) :: ((rowC 78 3 u6 zs.length (flatX zs) :: zs.map datC) ++ [inC W])))) := hin _ (by simp)
          have htd : ∀ d ∈ zs.map datC, d ∈ (e'.L X a' ((rowC 78 3 (.slice vo ys.length vc) ys.length (flatX ys) :: ys.map datC) ++ (ownC 9 (.slice so items.length sc) (txtV items) :: ((rowC 78 3 u6 zs.length (flatX zs) :: zs.map datC) ++ [inC W])))) := fun d hd => hin d (List.mem_append_right _ (List.mem_cons_of_mem _ (List.mem_append_left _ (List.mem_cons_of_mem _ hd))))
          have HTV := hid htv
          have HTD := hid htd
          clear htv htd hin
          have C23 := hid (SinceE_any (at_ := 0) HO'.out HK.out)
          go_upto_region 29 with (first
            | (go_at_call 16; refine (Base_any xb).mono ?_; rintro r w8 ⟨rfl, h8⟩; subst w8)
            | (go_at_call 14; refine (Op_any xo).mono ?_; rintro r w8 ⟨rfl, h8⟩; subst w8)
            | (go_at_call 23; refine C23.out.mono ?_; rintro r w8 ⟨v2, ys2, rfl, h2, A8⟩; have C28 := hid (sameSheets_true (shw_in HO'.out.bk h2 A8 List.mem_cons_self (fun d h => List.mem_cons_of_mem _ (List.mem_append_left _ h))) (shw_in HO'.out.bk HKY.out A8 (List.mem_cons_of_mem _ (List.mem_append_right _ HTV.out)) (fun d h => List.mem_cons_of_mem _ (List.mem_append_right _ (HTD.out d h))))); have K8 := hid A8; clear A8 h2 C23)
            | (go_at_call 28; refine C28.out.mono ?_; rintro r w9 ⟨rfl, h9⟩; have K10 : Hid (All (e'.L X a' ((rowC 78 3 (.slice vo ys.length vc) ys.length (flatX ys) :: ys.map datC) ++ (ownC 9 (.slice so items.length sc) (txtV items) :: ((rowC 78 3 u6 zs.length (flatX zs) :: zs.map datC) ++ [inC W])))) w9) := hid (All.dropA (rowC 78 3 v2 ys2.length (flatX ys2) :: ys2.map datC) (All.later K8.out h9)); clear h9 C28; have xb9 : w9.cell? ⟨X, 4, none⟩ = some (.int .i64 (e'.kop : Int)) := cell_in (o := 4) K10.out EM.box rfl; have C24 := hid (SinceE_any (at_ := (e'.kop : Int)) HO'.out K10.out))
            | (go_at_call 16; refine (Base_any xb9).mono ?_; rintro r w8 ⟨rfl, h8⟩; subst w8)
            | (go_at_call 23; refine C24.out.mono ?_; rintro r w11 ⟨v3, ys3, rfl, h3, A11⟩; have hnil : ys3 = [] := (by have h4 := shs_none (a := e'.kop) HI'.out.kst; rw [Int.toNat_natCast, h4] at h3; simpa using h3); subst hnil; obtain ⟨o3, q3, rfl⟩ := row_len A11 List.mem_cons_self; have K12 : Hid (All (e'.L X a' ((rowC 78 3 (.slice vo ys.length vc) ys.length (flatX ys) :: ys.map datC) ++ (ownC 9 (.slice so items.length sc) (txtV items) :: ((rowC 78 3 u6 zs.length (flatX zs) :: zs.map datC) ++ [inC W])))) w11) := hid (All.dropA [rowC 78 3 _ 0 []] A11); clear A11 h3 C24))
          refine ⟨⟨i + 1, by omega, by go_num, hid ⟨e', a', zs, HO'.out, HI'.out, HKY.out, EM.less (xs := [ownC 9 (.slice so items.length sc) (txtV items)]) (EM.less (xs := (rowC 78 3 (.slice vo ys.length vc) ys.length (flatX ys) :: ys.map datC)) K12.out)⟩⟩, ?_⟩
          simp [intOf]
          omega
      have XY : Hid (ys[k]? = some ys[k]) := hid (List.getElem?_eq_getElem hkl)
      generalize ys[k] = y at XY
      obtain ⟨s1, s2, s3, s4, s5, s6⟩ := sheet_ok HI'.out HO'.out HY.out XY.out
      have hmy := hm y XY.out
      obtain ⟨hyl, gy, rfl, c0, c1, c2⟩ := row_cell (ao := vo) (c := vc) (ys := ys) hK.out (by simp [EM.L]) (fun d hd => by rw [EM.L_app]; exact List.mem_append_right _ (List.mem_append_left _ (List.mem_cons_of_mem _ hd))) XY.out
      have d7 : decide ((y.len : Int) > 2304) = false := by simp; omega
      clear hyl
      have kk0 : (0 : Int) ≤ (k : Int) := by omega
      have kk1 : (k : Int) < (ys.length : Int) := by omega
      have K9 : Hid (All (blkC wr.heap.size [.int .i64 (y.num : Int), .int .i64 (y.at_ : Int), .slice y.ao y.len y.cap] 78 :: (e'.L X a' ((rowC 78 3 (.slice (some ⟨gy, 0, none⟩) ys.length vc) ys.length (flatX ys) :: ys.map datC) ++ (ownC 9 (.slice so items.length sc) (txtV items) :: ((rowC 78 3 u6 zs.length (flatX zs) :: zs.map datC) ++ [inC W]))))) (wr.alloc (.cells #[.int .i64 (y.num : Int), .int .i64 (y.at_ : Int), .slice y.ao y.len y.cap] 78))) := hid (hK.out.addBlk _ _)
      go_upto_region 19 with fail
      generalize wr.alloc (.cells #[.int .i64 (y.num : Int), .int .i64 (y.at_ : Int), .slice y.ao y.len y.cap] 78) = w8 at *
      generalize wr.heap.size = B at *
      have q0 : Hid (w8.cell? ⟨B, 0, none⟩ = some (.int .i64 (y.num : Int)) ∧ w8.cell? ⟨B, 1, none⟩ = some (.int .i64 (y.at_ : Int)) ∧ w8.cell? ⟨B, 2, none⟩ = some (.slice y.ao y.len y.cap) ∧ w8.cell? ⟨X, 0, none⟩ = some (.int .i64 (e'.op : Int))) := hid ⟨cell_in K9.out List.mem_cons_self rfl, cell_in K9.out List.mem_cons_self rfl, cell_in K9.out List.mem_cons_self rfl, cell_in (P := X) (t := 92) (C := engV e'.op a'.g a'.Sh a'.Rl e'.kop a'.kg e'.ev) K9.out (List.mem_cons_of_mem _ EM.box) rfl⟩
      have d1 : decide ((y.num : Int) ≤ m) = false := by simp; omega
      have d2 : decide ((y.num : Int) ≥ 16) = false := by simp; omega
      have d3 : decide (16 ≤ (y.num : Int)) = false := d2
      have d4 : decide ((y.at_ : Int) < 1) = false := by simp; omega
      have d5 : decide ((y.at_ : Int) > (e'.op : Int)) = false := by simp; omega
      have d6 : decide ((e'.op : Int) < (y.at_ : Int)) = false := d5
      have d9 : decide (e'.op < y.at_) = false := by simpa using s3
      have d10 : decide (y.at_ > e'.op) = false := d9
      have d8 : decide (2304 < (y.len : Int)) = false := d7
      have C14 : Hid (Calls Tryz.prog 14 #[.pointer (some ⟨X, 0, none⟩)] w8.drew fun r w' => r = .returned (.int .i64 (e'.op : Int)) ∧ w' = w8.drew) := hid (Op_any q0.out.2.2.2)
      have HM := hid (And.intro s6 s5)
      have HS := hid s1
      clear c0 c1 c2 hK hm s6 s5 s1 s2 s3 s4 hmy
      go_region_held3 (fun W' => W'.cell? ⟨B, 0, none⟩ = some (.int .i64 (y.num : Int)) ∧ W'.cell? ⟨B, 1, none⟩ = some (.int .i64 (y.at_ : Int)) ∧ W'.cell? ⟨B, 2, none⟩ = some (.slice y.ao y.len y.cap) ∧ W'.cell? ⟨X, 0, none⟩ = some (.int .i64 (e'.op : Int))) (exact q0.out)
        (first
          | (go_at_call 14; refine C14.out.mono ?_; rintro r w9 ⟨rfl, h9⟩; subst w9))
      have K10 := hid (All.drew K9.out)
      generalize w8.drew = w9 at *
      clear K9 q0 C14 d1 d2 d3 d4 d5 d6 d7 d8 d9 d10
      have c0 := cell_in (o := 0) K10.out List.mem_cons_self rfl
      have c1 := cell_in (o := 1) K10.out List.mem_cons_self rfl
      by_cases h8 : 8 ≤ y.num
      case neg =>
        have d1 : decide ((y.num : Int) ≥ 8) = false := by simp; omega
        have d2 : decide (8 ≤ (y.num : Int)) = false := d1
        go_wp2
        go_roundw
        case rel => exact ⟨k + 1, (y.num : Int), by omega, by go_num, rfl, fun z hz => by have := HM.out.1 z hz; omega, hid K10.out.tail⟩
        case measure => simp [intOf]; omega
      obtain ⟨p, hp, hon, hpa⟩ := HM.out.2 h8
      have d1 : decide ((y.num : Int) ≥ 8) = true := by simp; omega
      have d2 : decide (8 ≤ (y.num : Int)) = true := d1
      have hj8 : y.num - 8 < 8 := by have := HS.out; omega
      obtain ⟨j, hj⟩ : ∃ j, Hid (y.num - 8 = j) := ⟨_, hid rfl⟩
      rw [hj.out] at hp hj8
      have hw : IntKind.i64.wrap ((y.num : Int) - 8) = (j : Int) := by have h1 := hj.out; have h2 := HS.out; rw [IntKind.wrap_i64] <;> omega
      have C25 : Hid (Calls Tryz.prog 25 #[.pointer (some ⟨X, 0, none⟩), .int .i64 (j : Int)] w9 fun r w' => ∃ ao c', r = .returned (.tuple #[rowV p.n p.a p.c p.k (.slice ao p.l.length c'), .bool true]) ∧ All (ownC 9 (.slice ao p.l.length c') (cellsT p.l) :: e'.L X a' (blkC B [.int .i64 (y.num : Int), .int .i64 (y.at_ : Int), .slice y.ao y.len y.cap] 78 :: ((rowC 78 3 (.slice (some ⟨gy, 0, none⟩) ys.length vc) ys.length (flatX ys) :: ys.map datC) ++ (ownC 9 (.slice so items.length sc) (txtV items) :: ((rowC 78 3 u6 zs.length (flatX zs) :: zs.map datC) ++ [inC W]))))) w') := hid (by
        refine (LastE_any HO'.out hp hj8 (EM.front K10.out)).mono ?_
        rintro r w' ⟨ao, c', rfl, h2⟩
        rw [hon]
        exact ⟨ao, c', rfl, h2⟩)
      have HPA := hid hpa
      clear hpa hon hp h8
      go_upto_region 24 with (go_at_call 25; refine C25.out.mono ?_; rintro r w10 ⟨ao, c', rfl, A10⟩; have K11 := hid (A10.addBlk [.int .i64 p.n, .int .i64 p.a, .int .i64 p.c, .int .i64 p.k, .slice ao p.l.length c'] 60); clear A10 C25)
      generalize w10.alloc (.cells #[.int .i64 p.n, .int .i64 p.a, .int .i64 p.c, .int .i64 p.k, .slice ao p.l.length c'] 60) = w11 at *
      generalize w10.heap.size = Q at *
      have r1 := cell_in (o := 1) K11.out List.mem_cons_self rfl
      have b1 := cell_in (P := B) (o := 1) (t := 78) (C := [.int .i64 (y.num : Int), .int .i64 (y.at_ : Int), .slice y.ao y.len y.cap]) K11.out (by simp [EM.L]) rfl
      have d3 : (p.a != (y.at_ : Int)) = false := by rw [HPA.out]; simp
      clear c0 c1
      go_wp2
      go_roundw
      case rel => exact ⟨k + 1, (y.num : Int), by omega, by go_num, rfl, fun z hz => by have := HM.out.1 z hz; omega, hid (EM.less (xs := [blkC B [.int .i64 (y.num : Int), .int .i64 (y.at_ : Int), .slice y.ao y.len y.cap] 78]) K11.out.tail.tail)⟩
      case measure => simp [intOf]; omega
end Go.Proofs.YtafickhhdemjnaaGreatDoor

import Derived.Test.YtphcfkfdkaphbaaPat
import Derived.Test.YtphcfkfdkaphbaaGrows
namespace Go.Proofs.Ytphcfkfdkaphbaa
open Go.RowKit
set_option linter.unusedVariables false

theorem pat_bad {w : World} {b m : Int} {v : Value} (h : b < 1 ∨ m < b ∨ 1024 < m) : Calls Try.prog 7 #[.int .i64 b, .int .i64 m, v] w fun e w' => e = .returned (.bool true) ∧ Below w.heap.size w w' := by
  have HE := hid (NewBackoff_bad (w := w) h)
  have HF := hid (refNew_bad (w := w) h)
  generalize errB b m = er at *
  go_enter Try.func7, Try.ntmps7
  go_wp2_with fail
  refine HE.out.mono ?_
  rintro e w1 ⟨rfl, rfl⟩
  go_wp2_with fail
  refine HF.out.mono ?_
  rintro e w1 ⟨rfl, rfl⟩
  go_wp2
  go_ret
  exact ⟨rfl, Below.refl _ _⟩

theorem Try.info75 : (Try.prog.info? 75).map (fun i => (i.zero, i.size, i.bytes)) = some (some (.pointer none), 1, 8) := by kernel_rfl
theorem Try.info78 : (Try.prog.info? 78).map (fun i => (i.zero, i.size, i.bytes)) = some (some (.pointer none), 1, 8) := by kernel_rfl

theorem one_owns (w : World) (t : TypeId) (v : Value) : (w.alloc (.cells #[v] t)).ownsRow w.heap.size t 1 (.slice (some ⟨w.heap.size, 0, none⟩) 1 1) [v].length [v] :=
  ⟨by simp, Or.inr ⟨w.heap.size, 1, #[v], rfl, Nat.le_refl _, heap_alloc_new w _, by simp, by unfold maxLen; omega, rfl, rfl⟩⟩

theorem pat_start {w w2 : World} {b m : Int} {P Q : Nat} (h1 : 1 ≤ b) (h2 : b ≤ m) (h : All [blkC Q (bk b m b) 85, blkC P (bk b m b) 120, inC w] w2) : Pat b m (.slice (some ⟨w2.heap.size, 0, none⟩) 1 1) (.slice (some ⟨w2.heap.size + 1, 0, none⟩) 1 1) [⟨P, Q, b⟩] [inC w] ((w2.alloc (.cells #[ptr P] 75)).alloc (.cells #[ptr Q] 78)) := by
  have h1' := h.perm (List.Perm.swap _ _ _)
  have hA1 := (h1'.addOwn (e := 75) (v := .slice (some ⟨w2.heap.size, 0, none⟩) 1 1) (l := [ptr P]) (ba w2 (.cells #[ptr P] 75)) (one_owns w2 75 (ptr P)))
  have hA2 := (hA1.addOwn (e := 78) (v := .slice (some ⟨w2.heap.size + 1, 0, none⟩) 1 1) (l := [ptr Q]) (ba _ (.cells #[ptr Q] 78)) (by have := one_owns (w2.alloc (.cells #[ptr P] 75)) 78 (ptr Q); simpa using this))
  exact ⟨hA2.swap, fun y hy => by simp at hy; subst hy; exact ⟨h1, h2⟩, by simp⟩

set_option maxHeartbeats 12800000 in
set_option maxRecDepth 1000000 in
theorem pat_ok {w : World} {b m : Int} {v : Value} {xs : List Ac} (h1 : 1 ≤ b) (h2 : b ≤ m) (h3 : m ≤ 1024) (hs : ActsAt w v xs) : Calls Try.prog 7 #[.int .i64 b, .int .i64 m, v] w fun e w' => e = .returned (.bool true) ∧ Below w.heap.size w w' := by
  obtain ⟨i1, hi1, hz10, hz11, hz12⟩ := info_parts Try.info75
  obtain ⟨i2, hi2, hz20, hz21, hz22⟩ := info_parts Try.info78
  obtain ⟨so, sc, rfl⟩ := hs.form
  have HS := hid hs
  have hxl : xs.length ≤ maxLen := hs.len
  unfold maxLen at hxl
  clear hs
  go_enter Try.func7, Try.ntmps7
  go_wp2_with fail
  refine (New_ok (All.came w) h1 h2 h3).mono ?_
  rintro e w1 ⟨P, rfl, hA1⟩
  have A1 := hid hA1
  clear hA1
  unfold ptr
  go_wp2_with fail
  refine (refNew_ok A1.out h1 h2 h3).mono ?_
  rintro e w2 ⟨Q, rfl, hA2⟩
  have P2 := hid (pat_start h1 h2 hA2)
  clear hA2 A1
  unfold ptr
  unfold ptr at P2
  go_wp2
  go_loopw [11, 12, 50] (fun av bv iv wr => ∃ (i : Nat) (ys : List Tw), iv = .int .i64 (i : Int) ∧ i ≤ xs.length ∧ Hid (Pat b m av bv ys [inC w] wr)) (fun _ _ iv _ => xs.length - (intOf iv).toNat)
  case atStart => exact ⟨0, _, rfl, by omega, P2⟩
  case round =>
    obtain ⟨i, ys, rfl, hi, RP⟩ := hrel
    obtain ⟨ao, ac, bo, bc, rfl, rfl⟩ := RP.out.forms
    have hyl := RP.out.len
    clear P2
    by_cases hlt : i < xs.length
    · obtain ⟨x, hx⟩ : ∃ x, xs[i]? = some x := ⟨_, List.getElem?_eq_getElem hlt⟩
      obtain ⟨sb, sof, hso, x0, x1, x2, x3, x4⟩ := HS.out.at (RP.out.into (w0 := w) (by simp)) hx
      subst hso
      obtain ⟨kd, at_, nm, nu, tk⟩ := x
      simp only at x0 x1 x2 x3 x4
      have PX := hid (RP.out.addBlk (Ac.cells ⟨kd, at_, nm, nu, tk⟩) 40)
      clear hx RP
      go_wp2_with fail
      refine (among_any at_ ys.length (by omega) (by omega)).mono ?_
      rintro e w3 ⟨k, hk, rfl, rfl⟩
      obtain ⟨pre, post, yP, yQ, n, ga, gb, hys, hpre, rfl, rfl, hn1, hn2, hok, hl4, hA⟩ := PX.out.open hk
      have PX := hid (show Pat b m (.slice (some ⟨ga, 0, none⟩) ys.length ac) (.slice (some ⟨gb, 0, none⟩) ys.length bc) ys (blkC wr.heap.size (Ac.cells ⟨kd, at_, nm, nu, tk⟩) 40 :: [inC w]) (wr.alloc (.cells (Ac.cells ⟨kd, at_, nm, nu, tk⟩).toArray 40)) from PX.out)
      have A0 := hid hA
      have HY := hid hys
      have HP := hid hpre
      have HO := hid hok
      clear hA hys hpre hok x0 x1 x2 x3 x4
      rw [show (#[Value.int IntKind.i64 kd, Value.int IntKind.i64 at_, Value.string nm, Value.int IntKind.i64 nu, Value.int IntKind.i64 tk] : Array Value) = (Ac.cells ⟨kd, at_, nm, nu, tk⟩).toArray from rfl]
      generalize wr.alloc (.cells (Ac.cells ⟨kd, at_, nm, nu, tk⟩).toArray 40) = wx at *
      generalize wr.heap.size = X at *
      obtain ⟨cx0, _⟩ := blk_cell A0.out (g := X) (t := 40) (j := 0) (by simp [patR]) (rfl : (Ac.cells ⟨kd, at_, nm, nu, tk⟩)[0]? = some (.int .i64 kd))
      obtain ⟨cx4, _⟩ := blk_cell A0.out (g := X) (t := 40) (j := 4) (by simp [patR]) (rfl : (Ac.cells ⟨kd, at_, nm, nu, tk⟩)[4]? = some (.int .i64 tk))
      obtain ⟨ca, cb⟩ := row_cells (ds := [blkC yP (bk b m n) 120, blkC yQ (bk b m n) 85]) A0.out HP.out
      go_wp2_with fail
      refine (among_any kd 4 (by omega) (by omega)).mono ?_
      rintro e w3 ⟨kk, hkk, rfl, rfl⟩
      have hkc : kk = 0 ∨ kk = 1 ∨ kk = 2 ∨ kk = 3 := by omega
      clear hkk
      rcases hkc with rfl | rfl | rfl | rfl
      · have B0 := hid A0.out.drew
        have hkI : (k : Int) < (ys.length : Int) := by omega
        clear A0 PX cx0 cx4
        go_wp2_with fail
        go_region_law (go_simp; first | (go_at_call 33; refine (Next_c B0.out hn1 hn2 h3).mono ?_; rintro e w5 ⟨rfl, q1⟩; have A5 := hid q1.swap; obtain ⟨ca5, cb5⟩ := row_cells (ds := [blkC yQ (bk b m n) 85, blkC yP (bk b m (min (2 * n) m)) 120]) A5.out HP.out; clear q1) | (go_at_call 34; refine (refNext_c A5.out hn1 hn2 h3).mono ?_; rintro e w6 ⟨rfl, q1⟩; have A6 := hid q1.swap; clear q1))
        all_goals go_wp2
        all_goals (go_roundw; (case rel => exact ⟨i + 1, _, by go_num, by omega, hid ((pat_back A6.out HO.out ⟨by omega, by omega⟩ hl4).dropC)⟩); (case measure => simp [intOf]; omega))
      · have B0 := hid A0.out.drew
        have hkI : (k : Int) < (ys.length : Int) := by omega
        obtain ⟨cq2, _⟩ := blk_cell A0.out (g := yQ) (t := 85) (j := 2) (by simp) (rfl : (bk b m n)[2]? = some (.int .i64 n))
        have PD := hid (PX.out.later (bd _)).dropC
        clear A0 PX cx0 cx4
        go_wp2_with fail
        go_region_law (go_simp; go_at_call 35; refine (Now_c B0.out).mono ?_; rintro e w5 ⟨rfl, rfl⟩)
        all_goals go_wp2
        all_goals (go_roundw; (case rel => exact ⟨i + 1, _, by go_num, by omega, PD⟩); (case measure => simp [intOf]; omega))
      · have hkI : (k : Int) < (ys.length : Int) := by omega
        go_wp2_with fail
        refine (Reset_c A0.out).mono ?_
        rintro e w5 ⟨rfl, q1⟩
        have A5 := hid q1.swap
        obtain ⟨ca5, cb5⟩ := row_cells (ds := [blkC yQ (bk b m n) 85, blkC yP (bk b m b) 120]) A5.out HP.out
        obtain ⟨cq0, _⟩ := blk_cell A5.out (g := yQ) (t := 85) (j := 0) (by simp) (rfl : (bk b m n)[0]? = some (.int .i64 b))
        obtain ⟨cq2, fq2⟩ := blk_cell A5.out (g := yQ) (t := 85) (j := 2) (by simp) (rfl : (bk b m n)[2]? = some (.int .i64 n))
        have A6 := hid (A5.out.drew.setBlk 2 (.int .i64 b)).swap
        clear q1 A0 PX cx0 cx4 ca cb A5
        go_wp2_with fail
        go_region
        all_goals go_wp2
        all_goals (go_roundw; (case rel => exact ⟨i + 1, _, by go_num, by omega, hid ((pat_back A6.out HO.out ⟨by omega, by omega⟩ hl4).dropC)⟩); (case measure => simp [intOf]; omega))
      · go_wp2_with fail
        refine (Clone_c A0.out).mono ?_
        rintro e w5 ⟨P', rfl, q1⟩
        have A5 := hid (q1.perm (List.perm_middle (a := blkC yQ (bk b m n) 85) (l₁ := [blkC P' (bk b m n) 120, blkC yP (bk b m n) 120])))
        obtain ⟨ca5, cb5⟩ := row_cells (ds := [blkC yQ (bk b m n) 85, blkC P' (bk b m n) 120, blkC yP (bk b m n) 120]) A5.out HP.out
        clear q1 A0 PX cx0 ca cb
        unfold ptr
        go_wp2_with fail
        refine (refClone_c A5.out).mono ?_
        rintro e w6 ⟨Q', rfl, q1⟩
        have M6 := hid (by have := pat_cloned q1; rw [← HY.out] at this; exact this)
        have HOK := hid (show ∀ y ∈ ys, 1 ≤ y.n ∧ y.n ≤ m from fun y hy => by
          rw [HY.out] at hy
          rcases List.mem_append.1 hy with h1 | h1
          · exact HO.out y (by simp [h1])
          · rcases List.mem_cons.1 h1 with rfl | h2
            · exact ⟨hn1, hn2⟩
            · exact HO.out y (by simp [h2]))
        clear q1 A5 ca5 cb5 HO HP HY
        unfold ptr
        have hrow1 : w6.ownsRow 0 75 1 (.slice (some ⟨ga, 0, none⟩) ys.length ac) (ps1 ys).length (ps1 ys) := M6.out.1.2.1
        have hrow2 : w6.ownsRow 0 78 1 (.slice (some ⟨gb, 0, none⟩) ys.length bc) (ps2 ys).length (ps2 ys) := M6.out.2.2.1.2.1
        have hp1 : (ps1 ys).length ≤ 4 := by simp [ps1]; omega
        have hp2 : (ps2 ys).length ≤ 4 := by simp [ps2]; omega
        by_cases hl : ys.length < 4
        · clear hrow2
          go_wp2_with (at_builtin; refine wpList_append_own_at _ rfl (.tmp 127) (.tmp 129) 81 rfl 0 75 i1 (.pointer none) 1 8 Try.underlying81 hi1 hz10 hz11 hz12 rfl (by decide) _ _ _ rfl (hrow1.alloc _) ⟨w6.heap.size, 0, none⟩ 1 1 [.pointer (some ⟨P', 0, none⟩)] rfl rfl (cell_one_new _ _ _) (fun u hu => by simp at hu; subst hu; rfl) (by unfold maxLen; omega) (by omega) (by omega) ?_)
          intro av' w7 hown hgr hnil hat
          have M7 := hid (show All (patM b m av' (ps1 ys ++ [ptr P']) _ (ps2 ys) ys _) w7 from (M6.out.alloc (.cells #[.pointer (some ⟨P', 0, none⟩)] 75)).ownGrow (by rw [List.length_append]; exact hown) hgr (by simpa using hat)).swap
          obtain ⟨ao', ac', eav⟩ := owns_form hown
          subst eav
          clear hown hgr hnil hat hrow1 M6
          have hrow2 : w7.ownsRow 0 78 1 (.slice (some ⟨gb, 0, none⟩) ys.length bc) (ps2 ys).length (ps2 ys) := M7.out.1.2.1
          go_wp2_with (at_builtin; refine wpList_append_own_at _ rfl (.tmp 131) (.tmp 133) 82 rfl 0 78 i2 (.pointer none) 1 8 Try.underlying82 hi2 hz20 hz21 hz22 rfl (by decide) _ _ _ rfl (hrow2.alloc _) ⟨w7.heap.size, 0, none⟩ 1 1 [.pointer (some ⟨Q', 0, none⟩)] rfl rfl (cell_one_new _ _ _) (fun u hu => by simp at hu; subst hu; rfl) (by unfold maxLen; omega) (by omega) (by omega) ?_)
          intro bv' w8 hown hgr hnil hat
          have M8 := hid ((M7.out.alloc (.cells #[.pointer (some ⟨Q', 0, none⟩)] 78)).ownGrow (vs' := ps2 ys ++ [ptr Q']) (by rw [List.length_append]; exact hown) hgr (by simpa using hat)).swap
          obtain ⟨bo', bc', ebv⟩ := owns_form hown
          subst ebv
          clear hown hgr hnil hat hrow2 M7
          go_wp2
          go_roundw
          case rel => exact ⟨i + 1, _, by go_num, by omega, hid ((patM_app M8.out HOK.out ⟨hn1, hn2⟩ hl).dropC)⟩
          case measure => simp [intOf]; omega
        · obtain ⟨cx4', _⟩ := blk_cell M6.out (g := X) (t := 40) (j := 4) (by simp [patM]) (rfl : (Ac.cells ⟨kd, at_, nm, nu, tk⟩)[4]? = some (.int .i64 tk))
          clear cx4
          go_wp2_with fail
          refine (among_any tk 4 (by omega) (by omega)).mono ?_
          rintro e w7 ⟨to, hto, rfl, rfl⟩
          have htoY : to < ys.length := by omega
          obtain ⟨u1, hu1⟩ : ∃ u, (ps1 ys)[to]? = some u := ⟨_, List.getElem?_eq_getElem (by simp [ps1]; omega)⟩
          obtain ⟨u2, hu2⟩ : ∃ u, (ps2 ys)[to]? = some u := ⟨_, List.getElem?_eq_getElem (by simp [ps2]; omega)⟩
          obtain ⟨g1, eg1, d1, f1⟩ := owns_at hrow1 hu1
          cases eg1
          have M7 := hid (All.ownSet (k := to) M6.out (ptr P')).swap
          unfold ptr at M7
          obtain ⟨g2, eg2, d2, f2⟩ := owns_at (M7.out.1.2.1) hu2
          cases eg2
          have M8 := hid (All.ownSet (k := to) M7.out (ptr Q')).swap
          unfold ptr at M8
          have htoI : (to : Int) < (ys.length : Int) := by omega
          clear hrow1 hrow2 hu1 hu2 M6 M7 cx4'
          go_wp2
          go_roundw
          case rel => exact ⟨i + 1, _, by go_num, by omega, hid ((patM_set M8.out HOK.out ⟨hn1, hn2⟩ (by omega) htoY).dropC)⟩
          case measure => simp [intOf]; omega
    · go_wp2
      go_loopw [149] (fun kv wr => ∃ k : Nat, k ≤ ys.length ∧ kv = .int .i64 (k : Int) ∧ Hid (Pat b m (.slice ao ys.length ac) (.slice bo ys.length bc) ys [inC w] wr)) (fun kv _ => ys.length - (intOf kv).toNat)
      case atStart => exact ⟨0, by omega, rfl, RP⟩
      case round =>
        obtain ⟨k, hk, rfl, RQ⟩ := hrel
        clear RP
        by_cases hlt2 : k < ys.length
        · obtain ⟨pre, post, yP, yQ, n, ga, gb, hys, hpre, rfl, rfl, hn1, hn2, hok, hl4, hA⟩ := RQ.out.open hlt2
          have RQ := hid (show Pat b m (.slice (some ⟨ga, 0, none⟩) ys.length ac) (.slice (some ⟨gb, 0, none⟩) ys.length bc) ys [inC w] wr from RQ.out)
          have A0 := hid hA
          obtain ⟨ca, cb⟩ := row_cells (ds := [blkC yP (bk b m n) 120, blkC yQ (bk b m n) 85]) A0.out hpre
          obtain ⟨cq2, _⟩ := blk_cell A0.out (g := yQ) (t := 85) (j := 2) (by simp) (rfl : (bk b m n)[2]? = some (.int .i64 n))
          have B0 := hid A0.out.drew
          have PD := hid (RQ.out.later (bd _))
          have hkI : (k : Int) < (ys.length : Int) := by omega
          clear hA hys hpre hok A0
          go_wp2_with fail
          go_region_law (go_simp; go_at_call 35; refine (Now_c B0.out).mono ?_; rintro e w5 ⟨rfl, rfl⟩)
          all_goals go_wp2
          all_goals (go_roundw; (case rel => exact ⟨k + 1, by omega, by go_num, PD⟩); (case measure => simp [intOf]; omega))
        · go_wp2
          go_ret
          exact ⟨rfl, RQ.out.into (by simp)⟩

theorem pat_walk {w : World} {v : Value} {xs : List Ac} (b m : Int) (hs : ActsAt w v xs) : Calls Try.prog 7 #[.int .i64 b, .int .i64 m, v] w fun e w' => e = .returned (.bool true) ∧ Below w.heap.size w w' := by
  by_cases h : b < 1 ∨ m < b ∨ 1024 < m
  · exact pat_bad h
  · exact pat_ok (by omega) (by omega) (by omega) hs
end Go.Proofs.Ytphcfkfdkaphbaa

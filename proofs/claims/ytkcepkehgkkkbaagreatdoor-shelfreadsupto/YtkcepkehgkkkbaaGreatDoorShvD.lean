import Derived.Test.YtkcepkehgkkkbaaGreatDoorJ23
import Derived.Deep.DeepCutAuto
namespace Go.Proofs.YtkcepkehgkkkbaaGreatDoor
open Go.RowKit
set_option linter.unusedVariables false
attribute [local go_sem ↓] Go.wp_at_zero Go.wp_at_succ

theorem fst_set {P : List En} {i : Nat} {v : Value} {us us' : List Value} (hi : P[i]? = some (v, us)) : (P.set i (v, us')).map Prod.fst = P.map Prod.fst := by
  refine List.ext_getElem? fun j => ?_
  rw [List.getElem?_map, List.getElem?_map, List.getElem?_set]
  split
  · rename_i hj
    subst hj
    have := (List.getElem?_eq_some_iff.1 hi).1
    have h2 := (List.getElem?_eq_some_iff.1 hi).2
    simp [this, h2]
  · rfl
theorem get_set {α : Type} {P : List α} {i : Nat} {x y : α} (hi : P[i]? = some x) : (P.set i y)[i]? = some y := by
  have := (List.getElem?_eq_some_iff.1 hi).1
  simp [this]
theorem ShOk.get {PA PM : List En} (h : ShOk PA PM) {i : Nat} {a m : Value} {us ms : List Value} (ha : PA[i]? = some (a, us)) (hm : PM[i]? = some (m, ms)) : us = ms := by
  have := congrArg (fun l => l[i]?) h.same
  simpa [ha, hm] using this
theorem ShOk.set2 {PA PM : List En} (h : ShOk PA PM) {i : Nat} {a m : Value} {us : List Value} (ha : PA[i]? = some (a, us)) (hm : PM[i]? = some (m, us)) (k : Nat) (s : ByteArray) : ShOk (PA.set i (a, us.set k (.string s))) (PM.set i (m, us.set k (.string s))) := by
  refine ⟨by rw [List.map_set, List.map_set, h.same], fun e he => ?_⟩
  rcases List.mem_or_eq_of_mem_set he with he | rfl
  · exact h.txt e he
  · obtain ⟨l, hl, hn⟩ := h.txt _ (List.mem_of_getElem? ha)
    simp only at hl
    refine ⟨l.set k s, ?_, by simpa using hn⟩
    simp only [hl, txtV, List.map_set]

theorem All.setA {S : Nat} {ov wv : Value} {PA PM : List En} {cs : List Comp} {w : World} (h : All (shL S ov wv PA PM ++ cs) w) {i g n cap : Nat} {us : List Value} (hi : PA[i]? = some (.slice (some ⟨g, 0, none⟩) n cap, us)) (k : Nat) (u : Value) : All (shL S ov wv (PA.set i (.slice (some ⟨g, 0, none⟩) n cap, us.set k u)) PM ++ cs) (w.setCell ⟨g, k, none⟩ u) := by
  have h1 : All (bxL S ov wv (PA.map Prod.fst) (PM.map Prod.fst) ++ (PA.map (eC 9) ++ (PM.map (eC 9) ++ cs))) w := by simpa [shL, List.append_assoc] using h
  have h2 := h1.setAt (k := k) hi u
  simp only [shL, fst_set hi, List.append_assoc]
  exact h2
theorem All.setM {S : Nat} {ov wv : Value} {PA PM : List En} {cs : List Comp} {w : World} (h : All (shL S ov wv PA PM ++ cs) w) {i g n cap : Nat} {us : List Value} (hi : PM[i]? = some (.slice (some ⟨g, 0, none⟩) n cap, us)) (k : Nat) (u : Value) : All (shL S ov wv PA (PM.set i (.slice (some ⟨g, 0, none⟩) n cap, us.set k u)) ++ cs) (w.setCell ⟨g, k, none⟩ u) := by
  have h1 : All ((bxL S ov wv (PA.map Prod.fst) (PM.map Prod.fst) ++ PA.map (eC 9)) ++ (PM.map (eC 9) ++ cs)) w := by simpa [shL, List.append_assoc] using h
  have h2 := h1.setAt (k := k) hi u
  simp only [shL, fst_set hi]
  simpa [List.append_assoc] using h2

section
variable {S : Nat} {ov wv : Value} {PA PM : List En} {cs : List Comp} {w : World}
theorem sh_box (h : All (shL S ov wv PA PM ++ cs) w) : w.heap[S]? = some (.cells #[ov, wv] 32 (0, 0)) := h.blk (g := S) (vs := [ov, wv]) (t := 32) (by simp [shL, bxL])
theorem sh_o (h : All (shL S ov wv PA PM ++ cs) w) : w.ownsRow 0 39 1 ov (PA.map Prod.fst).length (PA.map Prod.fst) := (h.mem (c := ownC 39 ov (PA.map Prod.fst)) (by simp [shL, bxL])).2.1
theorem sh_w (h : All (shL S ov wv PA PM ++ cs) w) : w.ownsRow 0 39 1 wv (PM.map Prod.fst).length (PM.map Prod.fst) := (h.mem (c := ownC 39 wv (PM.map Prod.fst)) (by simp [shL, bxL])).2.1
theorem sh_a (h : All (shL S ov wv PA PM ++ cs) w) {e : En} (he : e ∈ PA) : w.ownsRow 0 9 1 e.1 e.2.length e.2 := (h.mem (c := eC 9 e) (by simp only [shL, List.mem_append, List.mem_map]; exact .inl (.inr (.inl ⟨e, he, rfl⟩)))).2.1
theorem sh_m (h : All (shL S ov wv PA PM ++ cs) w) {e : En} (he : e ∈ PM) : w.ownsRow 0 9 1 e.1 e.2.length e.2 := (h.mem (c := eC 9 e) (by simp only [shL, List.mem_append, List.mem_map]; exact .inl (.inr (.inr ⟨e, he, rfl⟩)))).2.1

/-- What the walk reads of list i. -/
theorem sh_at (h : All (shL S ov wv PA PM ++ cs) w) {i : Nat} {a : Value} {us : List Value} (hi : PA[i]? = some (a, us)) : ∃ G, ov = .slice (some ⟨G, 0, none⟩) PA.length (match ov with | .slice _ _ c => c | _ => 0) ∧ w.cell? ⟨S, 0, none⟩ = some ov ∧ w.cell? ⟨G, i, none⟩ = some a := by
  have ho := sh_o h
  obtain ⟨ao, c, rfl⟩ := owns_form ho
  have hu : (PA.map Prod.fst)[i]? = some a := by simp [hi]
  obtain ⟨G, rfl, hc, _⟩ := owns_at ho hu
  exact ⟨G, by simp, by rw [cell_at (sh_box h)]; rfl, hc⟩
theorem sh_atM (h : All (shL S ov wv PA PM ++ cs) w) {i : Nat} {a : Value} {us : List Value} (hi : PM[i]? = some (a, us)) : ∃ G, wv = .slice (some ⟨G, 0, none⟩) PM.length (match wv with | .slice _ _ c => c | _ => 0) ∧ w.cell? ⟨S, 1, none⟩ = some wv ∧ w.cell? ⟨G, i, none⟩ = some a := by
  have ho := sh_w h
  obtain ⟨ao, c, rfl⟩ := owns_form ho
  have hu : (PM.map Prod.fst)[i]? = some a := by simp [hi]
  obtain ⟨G, rfl, hc, _⟩ := owns_at ho hu
  exact ⟨G, by simp, by rw [cell_at (sh_box h)]; rfl, hc⟩
/-- All that one round reads. -/
theorem sh_cells {G n oc i g mu cv j : Nat} {xs : List Value} {u : Value} (h : All (shL S (.slice (some ⟨G, 0, none⟩) n oc) wv PA PM ++ cs) w) (hi : PA[i]? = some (.slice (some ⟨g, 0, none⟩) mu cv, xs)) (hj : xs[j]? = some u) : w.cell? ⟨S, 0, none⟩ = some (.slice (some ⟨G, 0, none⟩) n oc) ∧ w.cell? ⟨G, i, none⟩ = some (.slice (some ⟨g, 0, none⟩) mu cv) ∧ w.cell? ⟨g, j, none⟩ = some u ∧ w.frozen? ⟨g, j, none⟩ = false := by
  obtain ⟨G', e, h0, h1⟩ := sh_at h hi
  simp only [Value.slice.injEq, Option.some.injEq, Addr.mk.injEq, and_true] at e
  obtain ⟨rfl, _⟩ := e
  have hr : w.ownsRow 0 9 1 (.slice (some ⟨g, 0, none⟩) mu cv) xs.length xs := sh_a h (List.mem_of_getElem? hi)
  obtain ⟨g', e2, h2, h3⟩ := owns_at hr hj
  simp only [Option.some.injEq, Addr.mk.injEq, and_true] at e2
  subst e2
  exact ⟨h0, h1, h2, h3⟩
theorem sh_cellsM {G n oc i g mu cv j : Nat} {xs : List Value} {u : Value} (h : All (shL S ov (.slice (some ⟨G, 0, none⟩) n oc) PA PM ++ cs) w) (hi : PM[i]? = some (.slice (some ⟨g, 0, none⟩) mu cv, xs)) (hj : xs[j]? = some u) : w.cell? ⟨S, 1, none⟩ = some (.slice (some ⟨G, 0, none⟩) n oc) ∧ w.cell? ⟨G, i, none⟩ = some (.slice (some ⟨g, 0, none⟩) mu cv) ∧ w.cell? ⟨g, j, none⟩ = some u ∧ w.frozen? ⟨g, j, none⟩ = false := by
  obtain ⟨G', e, h0, h1⟩ := sh_atM h hi
  simp only [Value.slice.injEq, Option.some.injEq, Addr.mk.injEq, and_true] at e
  obtain ⟨rfl, _⟩ := e
  have hr : w.ownsRow 0 9 1 (.slice (some ⟨g, 0, none⟩) mu cv) xs.length xs := sh_m h (List.mem_of_getElem? hi)
  obtain ⟨g', e2, h2, h3⟩ := owns_at hr hj
  simp only [Option.some.injEq, Addr.mk.injEq, and_true] at e2
  subst e2
  exact ⟨h0, h1, h2, h3⟩
end

/-- While the lists are marked. -/
structure Mk (S : Nat) (ov wv : Value) (us ms : List Value) (cs : List Comp) (PA PM : List En) (w : World) : Prop where
  all : All (shL S ov wv PA PM ++ cs) w
  ok : ShOk PA PM
  ea : PA.map Prod.fst = us
  em : PM.map Prod.fst = ms

set_option maxHeartbeats 6400000 in
set_option maxRecDepth 1000000 in
theorem spoil_sh {S : Nat} {ov wv : Value} {PA PM : List En} {cs : List Comp} {w : World} (h : All (shL S ov wv PA PM ++ cs) w) (ok : ShOk PA PM) (hn : PA.length ≤ 100000000000) :
    Calls Tryz.prog 25 #[.pointer (some ⟨S, 0, none⟩)] w fun e w' => e = .returned (.bool true) ∧ All cs w' := by
  have HC0 := hid (holds_sh h ok (by omega))
  obtain ⟨oo, oc, rfl⟩ := owns_form (sh_o h)
  obtain ⟨wo, wc, rfl⟩ := owns_form (sh_w h)
  simp only [List.length_map] at h
  rw [← ok.len] at h
  obtain ⟨n, hnn⟩ : ∃ n, Hid (n = PA.length) := ⟨_, hid rfl⟩
  rw [← hnn.out] at h hn
  have M0 := hid (Mk.mk h ok rfl rfl)
  generalize hus : PA.map Prod.fst = us at *
  generalize hms : PM.map Prod.fst = ms at *
  have HUS := hid hus
  have HMS := hid hms
  have c0 : w.cell? ⟨S, 0, none⟩ = some (.slice oo n oc) := by rw [cell_at (sh_box h)]; rfl
  obtain ⟨i1, hi1, hz0, hz1, hz2⟩ := info_parts Tryz.info39
  obtain ⟨i9, hi9, hy0, hy1, hy2⟩ := info_parts Tryz.info9
  clear h ok hus hms
  go_enter Tryz.func25, Tryz.ntmps25
  go_wp2_with fail
  refine Calls.mono HC0.out ?_
  rintro e0 w00 ⟨rfl, q00, rfl⟩
  clear HC0
  go_wp2
  go_loopw [4] (fun iv wr => ∃ (i : Nat) (P Q : List En), i ≤ n ∧ iv = .int .i64 (i : Int) ∧ Hid (Mk S (.slice oo n oc) (.slice wo n wc) us ms cs P Q wr)) (fun iv _ => n - (intOf iv).toNat)
  case atStart => exact ⟨0, PA, PM, by omega, rfl, hid ⟨M0.out.all.drewN _, M0.out.ok, M0.out.ea, M0.out.em⟩⟩
  case round =>
    obtain ⟨i, P, Q, hi, rfl, hrel⟩ := hrel
    have HPl : Hid (P.length = n ∧ Q.length = n) := hid (by
      have h1 := congrArg List.length (hrel.out.ea.trans HUS.out.symm)
      have h2 := hrel.out.ok.len
      simp only [List.length_map] at h1
      have := hnn.out
      omega)
    by_cases hlt : i < n
    · obtain ⟨v, xs, he⟩ : ∃ v xs, Hid (P[i]? = some (v, xs)) := ⟨P[i]'(by rw [HPl.out.1]; exact hlt) |>.1, P[i]'(by rw [HPl.out.1]; exact hlt) |>.2, hid (List.getElem?_eq_getElem _)⟩
      obtain ⟨m, ys, hem⟩ : ∃ v xs, Hid (Q[i]? = some (v, xs)) := ⟨Q[i]'(by rw [HPl.out.2]; exact hlt) |>.1, Q[i]'(by rw [HPl.out.2]; exact hlt) |>.2, hid (List.getElem?_eq_getElem _)⟩
      obtain ⟨G, eG, d0, d1⟩ := sh_at hrel.out.all he.out
      simp only [Value.slice.injEq] at eG
      obtain ⟨rfl, -, -⟩ := eG
      have rA : wr.ownsRow 0 9 1 v xs.length xs := sh_a hrel.out.all (List.mem_of_getElem? he.out)
      obtain ⟨av, cv, rfl⟩ := owns_form rA
      clear rA
      obtain ⟨mu, hmu⟩ : ∃ mu, Hid (mu = xs.length) := ⟨_, hid rfl⟩
      rw [← hmu.out] at he d1
      have huv : Hid (us[i]? = some (.slice av mu cv)) := hid (by rw [← hrel.out.ea]; simp [he.out])
      have hmv : Hid (ms[i]? = some m) := hid (by rw [← hrel.out.em]; simp [hem.out])
      have hmu3 : mu ≤ 1000 := by
        obtain ⟨l, hl, hll⟩ := hrel.out.ok.txt _ (List.mem_of_getElem? he.out)
        rw [hmu.out]
        simp only at hl
        rw [hl]; simpa using hll
      go_wp2
      clear d0 d1
      go_loopw [5] (fun jv wr2 => ∃ (j : Nat) (P2 Q2 : List En), j ≤ mu ∧ jv = .int .i64 (j : Int) ∧ Hid (Mk S (.slice (some ⟨G, 0, none⟩) n oc) (.slice wo n wc) us ms cs P2 Q2 wr2)) (fun jv _ => mu - (intOf jv).toNat)
      case atStart => exact ⟨0, P, Q, by omega, rfl, hrel⟩
      case round =>
        obtain ⟨j, P2, Q2, hj, rfl, hrel2⟩ := hrel
        obtain ⟨xs2, he2⟩ : ∃ xs2, Hid (P2[i]? = some (.slice av mu cv, xs2)) := by
          have := huv.out
          rw [← hrel2.out.ea, List.getElem?_map] at this
          obtain ⟨⟨a, b⟩, h1, h2⟩ := Option.map_eq_some_iff.1 this
          simp only at h2
          subst h2
          exact ⟨b, hid h1⟩
        obtain ⟨ys2, hem2⟩ : ∃ ys2, Hid (Q2[i]? = some (m, ys2)) := by
          have := hmv.out
          rw [← hrel2.out.em, List.getElem?_map] at this
          obtain ⟨⟨a, b⟩, h1, h2⟩ := Option.map_eq_some_iff.1 this
          simp only at h2
          subst h2
          exact ⟨b, hid h1⟩
        have exy := hrel2.out.ok.get he2.out hem2.out
        subst exy
        have rowA : wr.ownsRow 0 9 1 (.slice av mu cv) xs2.length xs2 := sh_a hrel2.out.all (List.mem_of_getElem? he2.out)
        have rowM : wr.ownsRow 0 9 1 m xs2.length xs2 := sh_m hrel2.out.all (List.mem_of_getElem? hem2.out)
        have hx2 : xs2.length = mu := (owns_len rowA).1.symm
        obtain ⟨G', eG, d0, d1⟩ := sh_at hrel2.out.all he2.out
        simp only [Value.slice.injEq, Option.some.injEq, Addr.mk.injEq, and_true] at eG
        obtain ⟨rfl, -⟩ := eG
        by_cases hjl : j < mu
        · obtain ⟨u, hu⟩ : ∃ u, xs2[j]? = some u := ⟨_, List.getElem?_eq_getElem (by omega)⟩
          obtain ⟨g, rfl, d2, f2⟩ := owns_at rowA hu
          obtain ⟨am, cm, rfl⟩ := owns_form rowM
          obtain ⟨g', rfl, d3, f3⟩ := owns_at rowM hu
          have AA := hid hrel2.out.all
          have HE2 := hid he2.out
          have HM2 := hid hem2.out
          have HX := hid hx2
          clear rowA rowM hx2
          obtain ⟨G2, eG2, y0, y1⟩ := sh_atM hrel2.out.all hem2.out
          simp only [Value.slice.injEq] at eG2
          obtain ⟨rfl, -, -⟩ := eG2
          rw [HX.out] at HM2
          clear y0 y1 d3 f3 hem2 he2 hem he
          go_wp2
          go_region_held3 (fun W => W.cell? ⟨S, 0, none⟩ = some (.slice (some ⟨G, 0, none⟩) n oc) ∧ W.cell? ⟨G, i, none⟩ = some (.slice (some ⟨g, 0, none⟩) mu cv)) (first | exact z0 | exact z1 | exact ⟨z0, z1⟩ | go_keep) (first
            | (go_at_call 65; refine (name_any i (by omega)).mono ?_; rintro e w2 ⟨rfl, Bh⟩; have A2 := hid (AA.out.drew.later Bh); obtain ⟨x0, x1, x2, x3⟩ := sh_cells A2.out HE2.out hu; have A3 := hid (A2.out.setA HE2.out j (.string (nmS i))); obtain ⟨z0, z1, _, _⟩ := sh_cells A3.out (get_set HE2.out) (get_set hu)))
          clear x0 x1 x2 x3 z0 z1 A2 Bh d0 d1 d2 f2
          generalize hw3 : w2.setCell ⟨g, j, none⟩ (.string (nmS i)) = w3 at A3 ⊢
          clear hw3
          obtain ⟨d0, d1, d2, f2⟩ := sh_cellsM A3.out HM2.out hu
          go_wp2
          go_region_held3 (fun W => W.cell? ⟨S, 1, none⟩ = some (.slice (some ⟨G2, 0, none⟩) n wc) ∧ W.cell? ⟨G2, i, none⟩ = some (.slice (some ⟨g', 0, none⟩) mu cm)) (first | exact z0 | exact z1 | exact ⟨z0, z1⟩ | go_keep) (first
            | (go_at_call 65; refine (name_any i (by omega)).mono ?_; rintro e w4 ⟨rfl, Bh⟩; have A4 := hid (A3.out.drew.later Bh); obtain ⟨x0, x1, x2, x3⟩ := sh_cellsM A4.out HM2.out hu; have A5 := hid (A4.out.setM HM2.out j (.string (nmS i))); obtain ⟨z0, z1, _, _⟩ := sh_cellsM A5.out (get_set HM2.out) (get_set hu)))
          clear x0 x1 x2 x3 z0 z1 A4 Bh d0 d1 d2 f2
          go_wp2
          go_roundw
          case rel => exact ⟨j + 1, _, _, by omega, by go_num, hid ⟨A5.out, hrel2.out.ok.set2 HE2.out HM2.out j _, (fst_set HE2.out).trans hrel2.out.ea, (fst_set HM2.out).trans hrel2.out.em⟩⟩
          case measure => simp [intOf]; omega
        · clear rowA rowM hx2
          go_wp2
          clear d0 d1
          go_roundw
          case rel => exact ⟨i + 1, P2, Q2, by omega, by go_num, hrel2⟩
          case measure => simp [intOf]; omega
    · have HC := hid (holds_sh hrel.out.all hrel.out.ok (by have := HPl.out.1; omega))
      go_wp2_with fail
      refine Calls.mono HC.out ?_
      rintro e1 w1 ⟨rfl, q1, rfl⟩
      clear HC
      have B0 : Hid (All (grL S (.slice oo n oc) (.slice wo n wc) [] P Q [] cs) (wr.drewN q1)) := hid (by
        have := hrel.out.all.drewN q1
        simpa [shL, grL, outV, wntV, List.append_assoc] using this)
      have O0 := hid (GrOk.of hrel.out.ok)
      clear hrel M0 c0 hlt hi
      go_wp2
      go_loopw [6] (fun iv wr => ∃ (i : Nat) (xa : Option Addr) (xc : Nat) (ya : Option Addr) (yc : Nat) (R : List (En × En)) (P2 NM : List En), i ≤ n ∧ iv = .int .i64 (i : Int) ∧ Hid (All (grL S (.slice xa (n + i) xc) (.slice ya (n + i) yc) R P2 Q NM cs) wr ∧ GrOk R P2 Q NM ∧ R.length = i ∧ P2.length + i = n ∧ NM.length = i)) (fun iv _ => n - (intOf iv).toNat)
      case atStart => exact ⟨0, oo, oc, wo, wc, [], P, [], by omega, rfl, hid ⟨B0.out, O0.out, rfl, HPl.out.1, rfl⟩⟩
      case round =>
        clear B0 O0
        obtain ⟨i, xa, xc, ya, yc, R, P2, NM, hi, rfl, hrel⟩ := hrel
        by_cases hlt : i < n
        · obtain ⟨e, P', rfl⟩ : ∃ e P', P2 = e :: P' := by
            cases P2 with
            | nil => have := hrel.out.2.2.2.1; simp at this; omega
            | cons e P' => exact ⟨e, P', rfl⟩
          obtain ⟨v, us1⟩ := e
          obtain ⟨m, zs, hm⟩ : ∃ m zs, Hid (Q[i]? = some (m, zs)) := ⟨Q[i]'(by rw [HPl.out.2]; exact hlt) |>.1, Q[i]'(by rw [HPl.out.2]; exact hlt) |>.2, hid (List.getElem?_eq_getElem _)⟩
          have ezs : us1 = zs := by
            have h1 := congrArg (fun l => l[i]?) hrel.out.2.1.s1
            change (R.map (fun p => p.1.2) ++ ((v, us1) :: P').map Prod.snd)[i]? = (Q.map Prod.snd)[i]? at h1
            rw [List.getElem?_append_right (by simp [hrel.out.2.2.1])] at h1
            simpa [hrel.out.2.2.1, hm.out] using h1
          subst ezs
          obtain ⟨l, hl, hll⟩ := hrel.out.2.1.tx _ (List.mem_of_getElem? hm.out)
          simp only at hl
          subst hl
          have rA : wr.ownsRow 0 9 1 v (txtV l).length (txtV l) := gr_p hrel.out.1 (e := (v, txtV l)) (by simp)
          have rM : wr.ownsRow 0 9 1 m (txtV l).length (txtV l) := gr_m hrel.out.1 (List.mem_of_getElem? hm.out)
          have capA := hid (Cap.own rA)
          obtain ⟨av, cv, rfl⟩ := owns_form rA
          obtain ⟨am, cm, rfl⟩ := owns_form rM
          have TM := Txts.of_own rM
          obtain ⟨mu, hmu⟩ : ∃ mu, Hid (l.length = mu) := ⟨_, hid rfl⟩
          simp only [List.length_map, hmu.out] at hrel hm TM capA
          have hmu3 : mu ≤ 1000 := by rw [← hmu.out]; exact hll
          have hou : (outV R ((.slice av mu cv, txtV l) :: P'))[i]? = some (.slice av mu cv) := by
            rw [List.getElem?_append_right (by simp [hrel.out.2.2.1])]; simp [hrel.out.2.2.1]
          have hwn : (wntV Q NM)[i]? = some (.slice am mu cm) := by
            rw [List.getElem?_append_left (by simp [HPl.out.2, hlt])]; simp [hm.out]
          obtain ⟨G, rfl, d1, _⟩ := owns_at (gr_o hrel.out.1) hou
          obtain ⟨G2, rfl, d3, _⟩ := owns_at (gr_w hrel.out.1) hwn
          have d0 : wr.cell? ⟨S, 0, none⟩ = some (.slice (some ⟨G, 0, none⟩) (n + i) xc) := by rw [cell_at (gr_box hrel.out.1)]; rfl
          have d2 : wr.cell? ⟨S, 1, none⟩ = some (.slice (some ⟨G2, 0, none⟩) (n + i) yc) := by rw [cell_at (gr_box hrel.out.1)]; rfl
          have b0 := cell_under (ba wr (.cells #[] 9)) (World.block_lt_of_cell? wr _ d2) d2
          have b1 := cell_under (ba wr (.cells #[] 9)) (World.block_lt_of_cell? wr _ d3) d3
          have lou : Hid ((outV R ((.slice av mu cv, txtV l) :: P')).length = n + i) := hid (by
            have h1 := hrel.out.2.2.1
            have h2 := hrel.out.2.2.2.1
            simp at h2 ⊢
            omega)
          have lwn : Hid ((wntV Q NM).length = n + i) := hid (by
            have h1 := hrel.out.2.2.2.2
            have h2 := HPl.out.2
            simp
            omega)
          have OR := hid hrel.out
          have A0 := gr_begin hrel.out.1
          obtain ⟨D, hD⟩ : ∃ D, Hid (D = R.map pC ++ (P'.map (eC 9) ++ (Q.map (eC 9) ++ (NM.map (eC 9) ++ cs)))) := ⟨_, hid rfl⟩
          rw [← hD.out] at A0
          obtain ⟨so, sc, w2, hr, A2⟩ := appX A0.addMade (TM.alloc _) (by simp; omega)
          rw [List.nil_append, List.length_nil, Nat.zero_add, hmu.out] at A2
          rw [List.length_nil, Nat.zero_add, hmu.out] at hr
          have R1 := hid hr
          have A2 := hid A2.swap
          have NM7 : Hid (∀ W : World, Calls Tryz.prog 65 #[.int .i64 ((i : Int) + 7)] W fun e w' => e = .returned (.string (nmS (i + 7))) ∧ Below W.heap.size W w') := hid (fun W => by
            have := name_any (w := W) (i + 7) (by omega)
            simpa using this)
          generalize hX : nmS (i + 7) = X at NM7
          clear hX rA rM TM hr A0 hou hwn hrel hm hll
          go_wp2_with (at_builtin; refine wpList_append_run rfl _ (.tmp 80) 39 rfl _ _ _ _ rfl rfl R1.out ?_)
          clear d0 d1 d2 d3 b0 b1 R1
          go_loopw [7, 8, 9] (fun lv mv kv wr2 => ∃ (j : Nat) (la : Option Addr) (lc : Nat) (ma : Option Addr) (mc : Nat), j ≤ 12 ∧ kv = .int .i64 (j : Int) ∧ lv = .slice la (mu + j) lc ∧ mv = .slice ma (mu + j) mc ∧ Hid (All (extC 9 (.slice av mu cv) (txtV l) (.slice la (mu + j) lc) (txtV (l ++ List.replicate j X)) :: ownC 9 (.slice ma (mu + j) mc) (txtV (l ++ List.replicate j X)) :: (bxL S (.slice (some ⟨G, 0, none⟩) (n + i) xc) (.slice (some ⟨G2, 0, none⟩) (n + i) yc) (outV R ((.slice av mu cv, txtV l) :: P')) (wntV Q NM) ++ D)) wr2)) (fun _ _ kv _ => 12 - (intOf kv).toNat)
          case atStart => exact ⟨0, av, cv, so, sc, by omega, rfl, rfl, rfl, hid (by simpa using A2.out)⟩
          case round =>
            clear A2
            obtain ⟨j, la, lc, ma, mc, hj, rfl, rfl, rfl, hrel2⟩ := hrel
            have hlen : Hid ((txtV (l ++ List.replicate j X)).length = mu + j) := hid (by simp [hmu.out])
            have hsnoc : Hid (txtV (l ++ List.replicate j X) ++ [.string X] = txtV (l ++ List.replicate (j + 1) X)) := hid (by simp [txtV, List.replicate_succ'])
            by_cases hjl : j < 12
            · go_wp2_with fail
              refine (NM7.out _).mono ?_
              rintro e w3 ⟨rfl, B3⟩
              obtain ⟨g, c, w4, hr4, A4⟩ := appE ((hrel2.out.later B3).alloc (.cells #[.string X] 9)) (cell_new1 _ _ _) rfl (by rw [hlen.out]; omega)
              rw [hlen.out] at hr4
              rw [hlen.out, hsnoc.out] at A4
              have R4 := hid hr4
              have A4 := hid A4
              clear hr4 B3 hrel2
              go_wp2_with (at_builtin; refine wpList_append_run rfl _ (.tmp 90) 39 rfl _ _ _ _ rfl rfl R4.out ?_)
              refine (NM7.out _).mono ?_
              rintro e w5 ⟨rfl, B5⟩
              obtain ⟨ao, c2, w6, hr6, A6⟩ := app1 Tryz.und39 hi9 hy0 hy1 hy2 rfl ((A4.out.later B5).swap.alloc (.cells #[.string X] 9)) (cell_new1 _ _ _) rfl (by rw [hlen.out]; unfold maxLen; omega) (by rw [hlen.out]; omega)
              rw [hlen.out] at hr6
              rw [hlen.out, hsnoc.out] at A6
              have R6 := hid hr6
              have A6 := hid A6.swap
              clear hr6 B5 A4 R4
              go_wp2_with (at_builtin; refine wpList_append_run rfl _ (.tmp 96) 39 rfl _ _ _ _ rfl rfl R6.out ?_)
              clear R6
              go_roundw
              case rel => exact ⟨j + 1, some ⟨g, 0, none⟩, c, ao, c2, by omega, by go_num, rfl, rfl, A6⟩
              case measure => simp [intOf]; omega
            · have hj12 : j = 12 := by omega
              obtain ⟨ll, hll⟩ : ∃ ll, Hid (ll = l ++ List.replicate j X) := ⟨_, hid rfl⟩
              rw [← hll.out] at hrel2
              have hlll : Hid (ll.length ≤ 2000) := hid (by rw [hll.out]; simp [hmu.out]; omega)
              have capL := hid (Cap.own hrel2.out.1.2.1.2.1)
              obtain ⟨K, hK⟩ : ∃ K, Hid (K = n + i) := ⟨_, hid rfl⟩
              obtain ⟨J, hJ⟩ : ∃ J, Hid (J = mu + j) := ⟨_, hid rfl⟩
              rw [← hK.out, ← hJ.out] at hrel2
              rw [← hJ.out] at capL
              rw [← hK.out] at lou lwn
              have hK2 : K ≤ 300000000000 := by rw [hK.out]; omega
              have A7 := take0 (hrel2.out.alloc (.cells #[.slice la J lc] 39))
              obtain ⟨ao, c, w7, hr7, A8⟩ := app1 Tryz.und30 hi1 hz0 hz1 hz2 rfl A7 (cell_new1 _ _ _) rfl (by rw [lou.out]; unfold maxLen; omega) (by rw [lou.out]; omega)
              rw [lou.out] at hr7 A8
              obtain ⟨k0, k1, A9⟩ := grow0 A8
              have d0 : wr.cell? ⟨S, 0, none⟩ = some (.slice (some ⟨G, 0, none⟩) K xc) := by
                have eb := hrel2.out.blk (g := S) (t := 32) (vs := [.slice (some ⟨G, 0, none⟩) K xc, .slice (some ⟨G2, 0, none⟩) K yc]) (by simp [bxL])
                rw [cell_at eb]; rfl
              have hSl : S < wr.heap.size := World.block_lt_of_cell? wr _ d0
              generalize hw8 : w7.setCell ⟨S, 0, none⟩ (.slice ao (K + 1) c) = w8 at A9
              have d1 : w8.cell? ⟨S, 1, none⟩ = some (.slice (some ⟨G2, 0, none⟩) K yc) := by
                have eb := A9.blk (g := S) (t := 32) (vs := [.slice ao (K + 1) c, .slice (some ⟨G2, 0, none⟩) K yc]) (by simp [bxL])
                rw [cell_at eb]; rfl
              have hSl8 : S < w8.heap.size := World.block_lt_of_cell? w8 _ d1
              have B7 := take1 (A9.alloc (.cells #[.slice ma J mc] 39))
              obtain ⟨ao2, c2, w9, hr9, B8⟩ := app1 Tryz.und30 hi1 hz0 hz1 hz2 rfl B7 (cell_new1 _ _ _) rfl (by rw [lwn.out]; unfold maxLen; omega) (by rw [lwn.out]; omega)
              rw [lwn.out] at hr9 B8
              obtain ⟨k2, k3, B9⟩ := grow1 B8
              rw [hD.out] at B9
              have E9 := hid (gr_end (e := (.slice av mu cv, txtV l)) B9 rfl rfl)
              have EO := hid (OR.out.2.1.grow (mv := .slice ma J mc) hlll.out capA.out capL.out)
              have R7 := hid hr7
              have R9 := hid hr9
              have hj12 := hid hj12
              clear A7 A8 A9 B7 B8 B9 hr7 hr9 hrel2 hsnoc hlen
              rw [← hJ.out]
              go_wp2_with (at_builtin; first | refine wpList_append_run rfl _ (.tmp 104) 30 rfl _ _ _ _ rfl rfl R7.out ?_ | refine wpList_append_run rfl _ (.tmp 114) 30 rfl _ _ _ _ rfl rfl R9.out ?_)
              have eK : Hid (n + (i + 1) = K + 1) := hid (by rw [hK.out]; omega)
              clear k0 k1 k2 k3 d0 d1 R7 R9
              go_roundw
              case rel => exact ⟨i + 1, ao, c, ao2, c2, _, P', _, by omega, by go_num, hid ⟨by rw [eK.out]; exact E9.out, EO.out, by rw [List.length_append, OR.out.2.2.1]; rfl, by have := OR.out.2.2.2.1; simp at this; omega, by rw [List.length_append, OR.out.2.2.2.2]; rfl⟩⟩
              case measure => simp [intOf]; omega
        · have hie : i = n := by omega
          have hP : P2 = [] := by
            have := hrel.out.2.2.2.1
            exact List.eq_nil_of_length_eq_zero (by omega)
          subst hP
          have hie := hid hie
          have HC := hid (gr_holds hrel.out.1 hrel.out.2.1 (by have := hrel.out.2.2.1; omega))
          go_wp2_with fail
          refine Calls.mono HC.out ?_
          rintro e1 w1 ⟨rfl, q2, rfl⟩
          clear HC
          go_wp2
          go_ret
          refine ⟨rfl, All.drewN (All.sublist ?_ hrel.out.1) q2⟩
          simp only [grL, ← List.append_assoc]
          exact List.sublist_append_right _ _
end Go.Proofs.YtkcepkehgkkkbaaGreatDoor

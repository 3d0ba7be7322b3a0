import Derived.Test.YtaomhahmpbfjhaaJ19
import Derived.Test.YtaomhahmpbfjhaaJ14
import Derived.Test.YtaomhahmpbfjhaaJ12
namespace Go.Proofs.Ytaomhahmpbfjhaa
open Go.RowKit
set_option linter.unusedVariables false

theorem rApply_any {w w0 : World} {R n : Nat} {v : Value} {ao : Option Addr} {c : Nat} {rs : List Xs} {xs : List Sh} {cs : List Comp} {S : Sheets} (hA : All (refL R v rs ++ cs) w) (hS : RS n rs S) (hn64 : n ≤ 64) (hin : inC w0 ∈ cs) (hR : ShR w0 ao xs) (hD : ∀ x ∈ xs, Reads w0 (.slice x.ao x.len x.cap) x.bs) (hl : xs.length ≤ 1099511627776) :
    Calls Try.prog 51 #[.pointer (some ⟨R, 0, none⟩), .slice ao xs.length c] w fun e w' => e = .returned (.int .i64 (chkE n (-1) xs)) ∧ RHas R n cs (if chkE n (-1) xs = 0 then layI S xs else S) w' := by
  by_cases hE : chkE n (-1) xs = 0
  · refine (rApply_ok hA hS hn64 hin hR hD hl hE).mono ?_
    rintro e w' ⟨rfl, h⟩
    rw [hE, if_pos rfl]
    exact ⟨rfl, h⟩
  · have hb := hA.into (w0 := w0) (by simp [hin])
    obtain ⟨ro, rc, rfl, hr⟩ := RAt.of hA
    refine (rApply_bad hr hS.len hn64 (hR.later hb) hl hE).mono ?_
    rintro e w' ⟨rfl, h⟩
    rw [if_neg hE]
    exact ⟨rfl, _, rs, hA.later h, hS⟩
theorem chkE_key {n : Nat} : ∀ {zs xs : List Sh} {L : Int}, zs.map Sh.key = xs.map Sh.key → (∀ z ∈ zs, z.len = z.bs.length) → (∀ x ∈ xs, x.len = x.bs.length) → chkE n L zs = chkE n L xs
  | [], [], _, _, _, _ => rfl
  | [], x :: xs, _, h, _, _ => by simp at h
  | z :: zs, [], _, h, _, _ => by simp at h
  | z :: zs, x :: xs, L, h, h1, h2 => by
    simp only [List.map_cons, List.cons.injEq] at h
    obtain ⟨hk, ht⟩ := h
    simp only [Sh.key, Prod.mk.injEq] at hk
    obtain ⟨e1, e2, e3⟩ := hk
    have l1 := h1 z (by simp)
    have l2 := h2 x (by simp)
    have e4 : z.len = x.len := by rw [l1, l2, e3]
    have e5 : chk1 n L z = chk1 n L x := by unfold chk1; rw [e1, e2, e4]
    rw [chkE, chkE, e5, e1, chkE_key ht (fun y hy => h1 y (by simp [hy])) (fun y hy => h2 y (by simp [hy]))]
theorem layI_key : ∀ {zs xs : List Sh} {S : Sheets}, zs.map Sh.key = xs.map Sh.key → layI S zs = layI S xs
  | [], [], _, _ => rfl
  | [], x :: xs, _, h => by simp at h
  | z :: zs, [], _, h => by simp at h
  | z :: zs, x :: xs, S, h => by
    simp only [List.map_cons, List.cons.injEq] at h
    obtain ⟨hk, ht⟩ := h
    simp only [Sh.key, Prod.mk.injEq] at hk
    obtain ⟨e1, e2, e3⟩ := hk
    have := layI_key (S := setS S z.num.toNat (z.at_.toNat, z.bs)) ht
    unfold layI at this ⊢
    rw [List.foldl_cons, List.foldl_cons, this, e1, e2, e3]
theorem datS_len {w : World} {z : Sh} (h : (datS z).holds w) : z.len = z.bs.length := by
  obtain ⟨a, c, e⟩ := owns_form (show w.ownsRow 0 5 1 (.slice z.ao z.len z.cap) z.bs.length (cellsB z.bs) from h)
  simp only [Value.slice.injEq] at e
  exact e.2.1
theorem rowU_at {w : World} {base : Nat} {ao : Option Addr} {m c k : Nat} {us : List Value} (h : w.ownsRow base 51 3 (.slice ao m c) k us) {i : Nat} {u : Value} (hu : us[i]? = some u) : ∃ g, ao = some ⟨g, 0, none⟩ ∧ g < w.heap.size ∧ w.cell? ⟨g, i, none⟩ = some u ∧ w.frozen? ⟨g, i, none⟩ = false := by
  have hl := h.1
  have hi := (List.getElem?_eq_some_iff.1 hu).1
  rcases h.2 with ⟨_, e⟩ | ⟨g, cap, cur, e, _, h2, h3, h4, h5, h6⟩
  · omega
  · simp only [Value.slice.injEq] at e
    obtain ⟨rfl, _, rfl⟩ := e
    refine ⟨g, rfl, (Array.getElem?_eq_some_iff.1 h2).1, ?_, free_at h2 i⟩
    rw [cell_at h2]
    have e1 : (cur.toList.take (k * 3))[i]? = us[i]? := by rw [h6]
    rw [List.getElem?_take, if_pos (by omega), Array.getElem?_toList, hu] at e1
    exact e1

set_option maxHeartbeats 3200000 in
set_option maxRecDepth 1000000 in
theorem apply_any {D n k i : Nat} {va vb vm : Value} {Q : Pool} {T : List Tq} {M : List Mk} {cs : List Comp} {w w0 : World} {ao : Option Addr} {c : Nat} {xs : List Sh} (hA : All (deskL D n va vb vm Q T M ++ cs) w) (hF : DF Q n T M i) (hk : k < T.length) (hin : inC w0 ∈ cs) (hR : ShR w0 ao xs) (hD : ∀ x ∈ xs, Reads w0 (.slice x.ao x.len x.cap) x.bs ∧ x.bs.length ≤ 140737488355318) (hl : xs.length ≤ 1099511627776) : Calls Try.prog 30 #[.pointer (some ⟨D, 0, none⟩), .int .i64 (k : Int), .slice ao xs.length c] w fun e w' => e = .returned (.bool true) ∧ DeskI D n T.length i cs w' := by
  obtain ⟨t, hT⟩ : ∃ t, Hid (T[k]? = some t) := ⟨_, hid (List.getElem?_eq_getElem hk)⟩
  have hok := hid (hF.ok t (List.mem_of_getElem? hT.out))
  obtain ⟨ra, ca, rb, cb, rfl, rfl, RD⟩ := desk_reads hT.out hA
  clear RD
  have j1 : (k : Int) < (T.length : Int) := by omega
  have HF := hid hF
  have A0 := hid (desk_out hT.out hA)
  have hn64 : n ≤ 64 := Nat.le_trans hok.out.bk.nlv hok.out.bk.lv64
  have HIN := hid hin
  have HR := hid hR
  have HD := hid hD
  clear hA hF hin hR hD
  have SS : Hid (∀ (X : List Comp) W, All (X ++ (hdL D (.slice (some ⟨ra, 0, none⟩) T.length ca) (.slice (some ⟨rb, 0, none⟩) T.length cb) vm (pA T) (pB T) M ++ (OT n T k ++ cs))) W → W.cell? ⟨D, 0, none⟩ = some (.slice (some ⟨ra, 0, none⟩) T.length ca) ∧ W.cell? ⟨D, 1, none⟩ = some (.slice (some ⟨rb, 0, none⟩) T.length cb) ∧ W.cell? ⟨ra, k, none⟩ = some (.pointer (some ⟨t.g, 0, none⟩)) ∧ W.cell? ⟨rb, k, none⟩ = some (.pointer (some ⟨t.R, 0, none⟩))) := hid (fun X W hW => by
    obtain ⟨a1, a2, a3, a4⟩ := hd_reads (X := X) hT.out hW
    exact ⟨a1, a2, a3, a4⟩)
  have C50 := hid (lcopied_any (c := c) A0.out (by simp [HIN.out]) HR.out (fun x hx => ⟨(HD.out x hx).1, by have := (HD.out x hx).2; omega⟩) hl)
  go_enter Try.func30, Try.ntmps30
  go_wp2_with fail
  refine C50.out.mono ?_
  rintro e w1 ⟨oo, oc, zs, rfl, hkz, A1⟩
  have hle : zs.length = xs.length := by
    have := congrArg List.length hkz
    simpa using this
  have HLE := hid hle
  have HKZ := hid hkz
  have HLX := hid hl
  obtain ⟨E, hE⟩ : ∃ E, Hid (chkE n (-1) xs = E) := ⟨_, hid rfl⟩
  have HEZ : Hid (chkE n (-1) zs = E) := hid (by
    rw [← hE.out]
    refine chkE_key hkz (fun z hz => ?_) (fun x hx => ?_)
    · exact datS_len (w := w1) (A1.mem (c := datS z) (by have := List.mem_map_of_mem (f := datS) hz; simp [this])).2.1
    · obtain ⟨a, b, e⟩ := (HD.out x hx).1.form
      simp only [Value.slice.injEq] at e
      exact e.2.1)
  have A2 : Hid (All (poolC Q :: blkC t.g (bookL n t.lv t.ps) 70 :: ((rowC 51 3 (.slice oo zs.length oc) zs.length (flatS zs) :: zs.map datS) ++ (refL t.R t.v t.rs ++ (hdL D (.slice (some ⟨ra, 0, none⟩) T.length ca) (.slice (some ⟨rb, 0, none⟩) T.length cb) vm (pA T) (pB T) M ++ (OT n T k ++ cs))))) w1) := hid (by
    refine A1.perm ?_
    have := perm_by 3 [rowC 51 3 (.slice oo zs.length oc) zs.length (flatS zs) :: zs.map datS, [poolC Q, blkC t.g (bookL n t.lv t.ps) 70], (refL t.R t.v t.rs ++ (hdL D (.slice (some ⟨ra, 0, none⟩) T.length ca) (.slice (some ⟨rb, 0, none⟩) T.length cb) vm (pA T) (pB T) M ++ (OT n T k ++ cs)))] [1, 0, 2] rfl (by decide)
    simpa [List.getD] using this)
  clear C50 A0 A1 hkz hle hl
  have q0 := hid (SS.out (poolC Q :: blkC t.g (bookL n t.lv t.ps) 70 :: ((rowC 51 3 (.slice oo zs.length oc) zs.length (flatS zs) :: zs.map datS) ++ refL t.R t.v t.rs)) w1 (by simpa only [List.cons_append, List.append_assoc] using A2.out))
  obtain ⟨c0, c1, pa, pb⟩ := q0.out
  go_wp2_with fail
  go_region_held3 (fun W => W.cell? ⟨D, 0, none⟩ = some (.slice (some ⟨ra, 0, none⟩) T.length ca) ∧ W.cell? ⟨D, 1, none⟩ = some (.slice (some ⟨rb, 0, none⟩) T.length cb) ∧ W.cell? ⟨ra, k, none⟩ = some (.pointer (some ⟨t.g, 0, none⟩)) ∧ W.cell? ⟨rb, k, none⟩ = some (.pointer (some ⟨t.R, 0, none⟩))) (first | exact q0.out | exact q1.out | exact q2.out)
    (first
      | (go_at_call 19; refine (Apply_any (A2.out.drew) hok.out.bk (by simp) (fun z hz => by have := List.mem_map_of_mem (f := datS) hz; simp [this]) (by have h1 := HLE.out; have h2 := HLX.out; omega)).mono ?_; rintro e w3 ⟨rfl, Q3, lv3, ps3, N3, A3, B3, hs3⟩; rw [HEZ.out] at B3 ⊢; have A3 := hid A3; have B3 := hid B3; have HS3 := hid hs3; have q1 := hid (SS.out (poolC Q3 :: blkC t.g (bookL n lv3 ps3) 70 :: ((rowC 51 3 (.slice oo zs.length oc) zs.length (flatS zs) :: zs.map datS) ++ refL t.R t.v t.rs)) w3 (by simpa only [List.cons_append, List.append_assoc] using A3.out)); have A4 : Hid (All (refL t.R t.v t.rs ++ (poolC Q3 :: blkC t.g (bookL n lv3 ps3) 70 :: ((rowC 51 3 (.slice oo zs.length oc) zs.length (flatS zs) :: zs.map datS) ++ (hdL D (.slice (some ⟨ra, 0, none⟩) T.length ca) (.slice (some ⟨rb, 0, none⟩) T.length cb) vm (pA T) (pB T) M ++ (OT n T k ++ cs))))) w3) := hid (A3.out.perm (by have := perm_by 4 [[poolC Q3, blkC t.g (bookL n lv3 ps3) 70], rowC 51 3 (.slice oo zs.length oc) zs.length (flatS zs) :: zs.map datS, refL t.R t.v t.rs, (hdL D (.slice (some ⟨ra, 0, none⟩) T.length ca) (.slice (some ⟨rb, 0, none⟩) T.length cb) vm (pA T) (pB T) M ++ (OT n T k ++ cs))] [2, 0, 1, 3] rfl (by decide); simpa [List.getD] using this)); clear hs3)
      | (go_at_call 51; refine (rApply_any A4.out hok.out.rs hn64 (by simp [HIN.out]) HR.out (fun x hx => (HD.out x hx).1) HLX.out).mono ?_; rintro e w5 ⟨rfl, v5, rs5, A5, R5⟩; rw [hE.out] at R5 ⊢; have A5 := hid A5; have R5 := hid R5; have q2 := hid (SS.out (refL t.R v5 rs5 ++ (poolC Q3 :: blkC t.g (bookL n lv3 ps3) 70 :: (rowC 51 3 (.slice oo zs.length oc) zs.length (flatS zs) :: zs.map datS))) w5 (by simpa only [List.cons_append, List.append_assoc] using A5.out))))
  clear q0 q1 q2 c0 c1 pa pb A2 A3 A4
  have HBZ : Hid (∀ z ∈ zs, z.bs.length ≤ 140737488355318) := hid (fun z hz => by
    have h1 : z.key ∈ xs.map Sh.key := by rw [← HKZ.out]; exact List.mem_map_of_mem hz
    obtain ⟨x, hx, he⟩ := List.mem_map.1 h1
    have h3 : x.bs = z.bs := congrArg (fun k => k.2.2) he
    have := (HD.out x hx).2
    rw [h3] at this
    omega)
  have C16 : Hid (Calls Try.prog 16 #[.slice oo zs.length oc, .slice ao xs.length c] w5 fun e w' => e = .returned (.bool true) ∧ ∃ q, w' = w5.drewN q) := hid (by
    rw [HLE.out]
    exact lsameS_eq (w := w5) (k := xs.length) (ca := oc) (cb := c) (ShSt.of_row (m := 0) A5.out (c := oc) (ao := oo) (xs := zs) (by simp) (fun x hx => by have := List.mem_map_of_mem (f := datS) hx; simp [this])) (ShSt.of_in (A5.out.into (w0 := w0) (by simp [HIN.out])) HR.out (fun x hx => (HD.out x hx).1)) HKZ.out HLE.out.symm HLX.out (fun z hz => by have := HBZ.out z hz; omega))
  go_wp2_with fail
  refine C16.out.mono ?_
  rintro e w6 ⟨rfl, q, hw6⟩
  have A6 := hid (A5.out.drewN q)
  rw [← hw6] at A6
  clear C16 A5 hw6
  obtain ⟨RST, hRST⟩ : ∃ RST, Hid (RST = refL t.R v5 rs5 ++ (poolC Q3 :: blkC t.g (bookL n lv3 ps3) 70 :: (hdL D (.slice (some ⟨ra, 0, none⟩) T.length ca) (.slice (some ⟨rb, 0, none⟩) T.length cb) vm (pA T) (pB T) M ++ (OT n T k ++ cs)))) := ⟨_, hid rfl⟩
  have A7 : Hid (∃ us : List Value, (∀ i z, 0 ≤ i → zs[i]? = some z → us[i * 3 + 2]? = some (.slice z.ao z.len z.cap)) ∧ All (rowC 51 3 (.slice oo zs.length oc) zs.length us :: ((zs.drop 0).map datS ++ RST)) w6) := hid ⟨flatS zs, fun i z _ hz => flatS_at hz (j := 2) (by decide), by
    refine A6.out.perm ?_
    have := perm_by 4 [refL t.R v5 rs5, [poolC Q3, blkC t.g (bookL n lv3 ps3) 70], rowC 51 3 (.slice oo zs.length oc) zs.length (flatS zs) :: zs.map datS, (hdL D (.slice (some ⟨ra, 0, none⟩) T.length ca) (.slice (some ⟨rb, 0, none⟩) T.length cb) vm (pA T) (pB T) M ++ (OT n T k ++ cs))] [2, 0, 1, 3] rfl (by decide)
    rw [hRST.out]
    simpa [List.getD] using this⟩
  clear A6
  have hzl : zs.length ≤ 1099511627776 := by have h1 := HLE.out; have h2 := HLX.out; omega
  go_wp2_with fail
  go_loopw [39] (fun iv wr => ∃ (j : Nat), j ≤ zs.length ∧ iv = .int .i64 (j : Int) ∧ Hid (∃ us : List Value, (∀ i z, j ≤ i → zs[i]? = some z → us[i * 3 + 2]? = some (.slice z.ao z.len z.cap)) ∧ All (rowC 51 3 (.slice oo zs.length oc) zs.length us :: ((zs.drop j).map datS ++ RST)) wr)) (fun iv _ => zs.length - (intOf iv).toNat)
  case atStart => exact ⟨0, by omega, rfl, A7⟩
  case round =>
    clear A7
    obtain ⟨j, hj, rfl, A8⟩ := hrel
    by_cases hjl : j < zs.length
    · have l1 : decide ((j : Int) < (zs.length : Int)) = true := decide_eq_true (by omega)
      have l2 : (j : Int) < (zs.length : Int) := by omega
      obtain ⟨z, hz⟩ : ∃ z, zs[j]? = some z := ⟨_, List.getElem?_eq_getElem hjl⟩
      have hzm := List.mem_of_getElem? hz
      obtain ⟨us, hus, A9⟩ := A8.out
      have hrow : wr.ownsRow 0 51 3 (.slice oo zs.length oc) zs.length us := A9.1.2.1
      have hul : us.length = zs.length * 3 := hrow.1
      obtain ⟨u0, hu0⟩ : ∃ u, us[j * 3]? = some u := ⟨_, List.getElem?_eq_getElem (by omega)⟩
      obtain ⟨u1, hu1⟩ : ∃ u, us[j * 3 + 1]? = some u := ⟨_, List.getElem?_eq_getElem (by omega)⟩
      have hu2 := hus j z (by omega) hz
      obtain ⟨g, rfl, lg, y2, _⟩ := rowU_at hrow hu2
      have edr : zs.drop j = z :: zs.drop (j + 1) := by
        have e := (List.getElem?_eq_some_iff.1 hz).2
        rw [← e]
        exact List.drop_eq_getElem_cons hjl
      have B1 : All (ownC 5 (.slice z.ao z.len z.cap) (cellsB z.bs) :: (rowC 51 3 (.slice (some ⟨g, 0, none⟩) zs.length oc) zs.length us :: ((zs.drop (j + 1)).map datS ++ RST))) wr := by
        rw [← rowC_own]
        refine A9.perm ?_
        rw [edr]
        exact List.Perm.swap _ _ _
      have C26 := hid (spoil_any B1 221 (by have := HBZ.out z hzm; simpa [cellsB] using this))
      have HUS := hid hus
      have HUL := hid hul
      have HU0 := hid hu0
      have HU1 := hid hu1
      clear A8 A9 B1 hrow hus hul hu0 hu1 hu2 hz hzm edr
      go_wp2_with fail
      refine C26.out.mono ?_
      rintro e w7 ⟨a7, c7, rfl, B7⟩
      have B7 := hid B7.tail
      clear C26 y2 lg
      obtain ⟨_, e0, lg, y0, f0⟩ := rowU_at (show w7.ownsRow 0 51 3 (.slice (some ⟨g, 0, none⟩) zs.length oc) zs.length us from B7.out.1.2.1) HU0.out
      cases e0
      obtain ⟨_, e1, _, y1, f1⟩ := rowU_at (show w7.ownsRow 0 51 3 (.slice (some ⟨g, 0, none⟩) zs.length oc) zs.length us from B7.out.1.2.1) HU1.out
      cases e1
      have B8 := hid ((B7.out.setRow1 (k := j * 3 + 1) (by rw [HUL.out]; omega) (.int .i64 9)).setRow1 (k := j * 3) (by rw [List.length_set, HUL.out]; omega) (.int .i64 9))
      go_wp2_with fail
      clear y0 y1 f0 f1 B7
      go_roundw
      case rel => exact ⟨j + 1, by omega, by go_num, hid ⟨_, fun i z hi hz => by
        rw [List.getElem?_set_ne (by omega), List.getElem?_set_ne (by omega)]
        exact HUS.out i z (by omega) hz, B8.out⟩⟩
      case measure => simp [intOf]; omega
    · have l1 : decide ((j : Int) < (zs.length : Int)) = false := decide_eq_false (by omega)
      have l2 : ¬ ((j : Int) < (zs.length : Int)) := by omega
      go_wp2
      go_ret
      obtain ⟨us, hus, A9⟩ := A8.out
      have h1 := A9.tail.sublist (List.sublist_append_right _ _)
      rw [hRST.out] at h1
      exact ⟨rfl, DeskI.mk (t' := ⟨t.g, t.R, lv3, ps3, N3, v5, rs5, if E = 0 then layI t.S xs else t.S⟩) hT.out HF.out HS3.out rfl rfl ⟨by have := B3.out; rw [layI_key HKZ.out] at this; exact this, R5.out⟩ HF.out.few HF.out.short h1.refG⟩
end Go.Proofs.Ytaomhahmpbfjhaa

namespace Go.Proofs.Ytaomhahmpbfjhaa
open Go.RowKit
set_option linter.unusedVariables false

set_option maxHeartbeats 3200000 in
set_option maxRecDepth 1000000 in
theorem act_4 {D n i : Nat} {va vb vm : Value} {Q : Pool} {T : List Tq} {M : List Mk} {cs : List Comp} {w w0 : World} {x : Ac} {xs : List Sh} (hA : All (deskL D n va vb vm Q T M ++ cs) w) (hF : DF Q n T M i) (hin : inC w0 ∈ cs) (hx : AcIn w0 x xs) (hi : i ≤ 1099511627000) (hm : amN x.kind 7 = 4) : Calls Try.prog 9 #[.pointer (some ⟨D, 0, none⟩), .agg x.cells.toArray] w fun e w' => e = .returned (.bool true) ∧ DeskI D n T.length (i + 64) cs w' := by
  obtain ⟨kd, bk, nu, at_, d1, d2, d3, l1, l2, l3, data⟩ := x
  have hk : amN bk T.length < T.length := amN_lt _ hF.one
  obtain ⟨k, hk0⟩ : ∃ k, amN bk T.length = k := ⟨_, rfl⟩
  rw [hk0] at hk
  obtain ⟨t, hT⟩ : ∃ t, Hid (T[k]? = some t) := ⟨_, hid (List.getElem?_eq_getElem hk)⟩
  have hok := hid (hF.ok t (List.mem_of_getElem? hT.out))
  obtain ⟨K, hK⟩ : ∃ K, Hid (K = w.heap.size) := ⟨_, hid rfl⟩
  have A1 : Hid (All (deskL D n va vb vm Q T M ++ (blkC K [.int .i64 kd, .int .i64 bk, .int .i64 nu, .int .i64 at_, .slice d1 d2 d3, .slice l1 l2 l3] 39 :: cs)) (w.alloc (.cells #[.int .i64 kd, .int .i64 bk, .int .i64 nu, .int .i64 at_, .slice d1 d2 d3, .slice l1 l2 l3] 39))) := hid (by
    have h1 := hA.addBlk [.int .i64 kd, .int .i64 bk, .int .i64 nu, .int .i64 at_, .slice d1 d2 d3, .slice l1 l2 l3] 39
    rw [← hK.out] at h1
    exact h1.perm List.perm_middle.symm)
  obtain ⟨ra, ca, rb, cb, rfl, rfl, RD⟩ := desk_reads hT.out A1.out
  obtain ⟨c0, c1, pa, pb⟩ := RD
  simp only at hm
  have HAM : Hid (∀ W : World, Calls Try.prog 25 #[.int .i64 kd, .int .i64 7] W fun e w' => e = .returned (.int .i64 4) ∧ w' = W) := hid (fun W => by
    refine (among_is kd 7 (by decide) (by decide)).mono ?_
    rintro e w' ⟨rfl, rfl⟩
    rw [hm]
    exact ⟨rfl, rfl⟩)
  have HAK : Hid (∀ W : World, Calls Try.prog 25 #[.int .i64 bk, .int .i64 (T.length : Int)] W fun e w' => e = .returned (.int .i64 (k : Int)) ∧ w' = W) := hid (fun W => by
    refine (among_is bk T.length hF.one (by have := hF.four; omega)).mono ?_
    rintro e w' ⟨rfl, rfl⟩
    rw [hk0]
    exact ⟨rfl, rfl⟩)
  have HF := hid hF
  have HX := hid hx
  have HIN := hid hin
  have hN4 := hF.four
  have HKL := hid hk
  have j1 : (k : Int) < (T.length : Int) := by omega
  generalize hN : T.length = N at *
  have HN := hid hN
  clear hA hF hm hN hk0 hx hin hk
  show Calls Try.prog 9 #[.pointer (some ⟨D, 0, none⟩), .agg #[.int .i64 kd, .int .i64 bk, .int .i64 nu, .int .i64 at_, .slice d1 d2 d3, .slice l1 l2 l3]] w _
  go_enter Try.func9, Try.ntmps9
  go_upto_region 1 with fail
  rw [← hK.out]
  clear hK
  have ZZ : Hid (∀ (Y : List Comp) W, All (Y ++ (blkC K [.int .i64 kd, .int .i64 bk, .int .i64 nu, .int .i64 at_, .slice d1 d2 d3, .slice l1 l2 l3] 39 :: cs)) W → W.cell? ⟨K, 0, none⟩ = some (.int .i64 kd) ∧ W.cell? ⟨K, 1, none⟩ = some (.int .i64 bk) ∧ W.cell? ⟨K, 2, none⟩ = some (.int .i64 nu) ∧ W.cell? ⟨K, 3, none⟩ = some (.int .i64 at_) ∧ W.cell? ⟨K, 4, none⟩ = some (.slice d1 d2 d3) ∧ W.cell? ⟨K, 5, none⟩ = some (.slice l1 l2 l3)) := hid (fun Y W hW => by
    have e : W.heap[K]? = some (.cells [.int .i64 kd, .int .i64 bk, .int .i64 nu, .int .i64 at_, .slice d1 d2 d3, .slice l1 l2 l3].toArray 39 (0, 0)) := hW.blk (by simp)
    refine ⟨?_, ?_, ?_, ?_, ?_, ?_⟩ <;> (rw [cell_at e]; rfl))
  generalize (w.alloc (.cells #[.int .i64 kd, .int .i64 bk, .int .i64 nu, .int .i64 at_, .slice d1 d2 d3, .slice l1 l2 l3] 39)) = w1 at *
  obtain ⟨z0, z1, z2, z3, z4, z5⟩ := ZZ.out _ _ A1.out
  go_region_held3 (fun W => W.cell? ⟨K, 1, none⟩ = some (.int .i64 bk) ∧ W.cell? ⟨D, 0, none⟩ = some (.slice (some ⟨ra, 0, none⟩) N ca)) (go_keep)
    ((go_at_call 25; refine (HAK.out _).mono ?_; rintro e w3 ⟨rfl, hw3⟩; have A3 := hid A1.out.drew; rw [← hw3] at A3; obtain ⟨_, s1, _⟩ := ZZ.out _ _ A3.out; have s2 := (desk_rd hT.out A3.out).c0; clear hw3))
  clear HAK A1 c0 c1 pa pb z0 z1 z2 z3 z4 z5 s1 s2
  obtain ⟨z0, z1, z2, z3, z4, z5⟩ := ZZ.out _ _ A3.out
  go_wp2_with fail
  refine (HAM.out _).mono ?_
  rintro e w5 ⟨rfl, hw5⟩
  have A4 := hid A3.out
  rw [← hw5] at A4
  clear hw5 A3 z0 z1 z2 z3 z4 z5 HAM
  obtain ⟨z0, z1, z2, z3, z4, z5⟩ := ZZ.out _ _ A4.out
  have e2 := HX.out.len
  simp only at e2
  subst e2
  have C := hid (apply_any (w0 := w0) (show All (deskL D n (.slice (some ⟨ra, 0, none⟩) N ca) (.slice (some ⟨rb, 0, none⟩) N cb) vm Q T M ++ (blkC K [.int .i64 kd, .int .i64 bk, .int .i64 nu, .int .i64 at_, .slice d1 d2 d3, .slice l1 xs.length l3] 39 :: cs)) w5 from A4.out) HF.out (by rw [HN.out]; exact HKL.out) (by simp [HIN.out]) HX.out.sh HX.out.shd HX.out.few (c := l3) (ao := l1))
  go_wp2_with fail
  refine C.out.mono ?_
  rintro e w6 ⟨rfl, HI⟩
  have HI := hid HI.drop
  clear C z0 z1 z2 z3 z4 z5 A4
  go_wp2
  go_ret
  exact ⟨rfl, HN.out ▸ HI.out.more (by omega)⟩
end Go.Proofs.Ytaomhahmpbfjhaa

namespace Go.Proofs.Ytaomhahmpbfjhaa
open Go.RowKit
set_option linter.unusedVariables false

set_option maxHeartbeats 3200000 in
set_option maxRecDepth 1000000 in
theorem act_5 {D n i : Nat} {va vb vm : Value} {Q : Pool} {T : List Tq} {M : List Mk} {cs : List Comp} {w w0 : World} {x : Ac} {xs : List Sh} (hA : All (deskL D n va vb vm Q T M ++ cs) w) (hF : DF Q n T M i) (hin : inC w0 ∈ cs) (hx : AcIn w0 x xs) (hi : i ≤ 1099511627000) (hm : amN x.kind 7 = 5) : Calls Try.prog 9 #[.pointer (some ⟨D, 0, none⟩), .agg x.cells.toArray] w fun e w' => e = .returned (.bool true) ∧ DeskI D n T.length (i + 64) cs w' := by
  obtain ⟨kd, bk, nu, at_, d1, d2, d3, l1, l2, l3, data⟩ := x
  have hk : amN bk T.length < T.length := amN_lt _ hF.one
  obtain ⟨k, hk0⟩ : ∃ k, amN bk T.length = k := ⟨_, rfl⟩
  rw [hk0] at hk
  obtain ⟨t, hT⟩ : ∃ t, Hid (T[k]? = some t) := ⟨_, hid (List.getElem?_eq_getElem hk)⟩
  have hok := hid (hF.ok t (List.mem_of_getElem? hT.out))
  obtain ⟨K, hK⟩ : ∃ K, Hid (K = w.heap.size) := ⟨_, hid rfl⟩
  have A1 : Hid (All (deskL D n va vb vm Q T M ++ (blkC K [.int .i64 kd, .int .i64 bk, .int .i64 nu, .int .i64 at_, .slice d1 d2 d3, .slice l1 l2 l3] 39 :: cs)) (w.alloc (.cells #[.int .i64 kd, .int .i64 bk, .int .i64 nu, .int .i64 at_, .slice d1 d2 d3, .slice l1 l2 l3] 39))) := hid (by
    have h1 := hA.addBlk [.int .i64 kd, .int .i64 bk, .int .i64 nu, .int .i64 at_, .slice d1 d2 d3, .slice l1 l2 l3] 39
    rw [← hK.out] at h1
    exact h1.perm List.perm_middle.symm)
  obtain ⟨ra, ca, rb, cb, rfl, rfl, RD⟩ := desk_reads hT.out A1.out
  obtain ⟨c0, c1, pa, pb⟩ := RD
  simp only at hm
  have HAM : Hid (∀ W : World, Calls Try.prog 25 #[.int .i64 kd, .int .i64 7] W fun e w' => e = .returned (.int .i64 5) ∧ w' = W) := hid (fun W => by
    refine (among_is kd 7 (by decide) (by decide)).mono ?_
    rintro e w' ⟨rfl, rfl⟩
    rw [hm]
    exact ⟨rfl, rfl⟩)
  have HAK : Hid (∀ W : World, Calls Try.prog 25 #[.int .i64 bk, .int .i64 (T.length : Int)] W fun e w' => e = .returned (.int .i64 (k : Int)) ∧ w' = W) := hid (fun W => by
    refine (among_is bk T.length hF.one (by have := hF.four; omega)).mono ?_
    rintro e w' ⟨rfl, rfl⟩
    rw [hk0]
    exact ⟨rfl, rfl⟩)
  have HF := hid hF
  have HX := hid hx
  have HIN := hid hin
  have hN4 := hF.four
  have HKL := hid hk
  have j1 : (k : Int) < (T.length : Int) := by omega
  generalize hN : T.length = N at *
  have HN := hid hN
  clear hA hF hm hN hk0 hx hin hk
  show Calls Try.prog 9 #[.pointer (some ⟨D, 0, none⟩), .agg #[.int .i64 kd, .int .i64 bk, .int .i64 nu, .int .i64 at_, .slice d1 d2 d3, .slice l1 l2 l3]] w _
  go_enter Try.func9, Try.ntmps9
  go_upto_region 1 with fail
  rw [← hK.out]
  clear hK
  have ZZ : Hid (∀ (Y : List Comp) W, All (Y ++ (blkC K [.int .i64 kd, .int .i64 bk, .int .i64 nu, .int .i64 at_, .slice d1 d2 d3, .slice l1 l2 l3] 39 :: cs)) W → W.cell? ⟨K, 0, none⟩ = some (.int .i64 kd) ∧ W.cell? ⟨K, 1, none⟩ = some (.int .i64 bk) ∧ W.cell? ⟨K, 2, none⟩ = some (.int .i64 nu) ∧ W.cell? ⟨K, 3, none⟩ = some (.int .i64 at_) ∧ W.cell? ⟨K, 4, none⟩ = some (.slice d1 d2 d3) ∧ W.cell? ⟨K, 5, none⟩ = some (.slice l1 l2 l3)) := hid (fun Y W hW => by
    have e : W.heap[K]? = some (.cells [.int .i64 kd, .int .i64 bk, .int .i64 nu, .int .i64 at_, .slice d1 d2 d3, .slice l1 l2 l3].toArray 39 (0, 0)) := hW.blk (by simp)
    refine ⟨?_, ?_, ?_, ?_, ?_, ?_⟩ <;> (rw [cell_at e]; rfl))
  generalize (w.alloc (.cells #[.int .i64 kd, .int .i64 bk, .int .i64 nu, .int .i64 at_, .slice d1 d2 d3, .slice l1 l2 l3] 39)) = w1 at *
  obtain ⟨z0, z1, z2, z3, z4, z5⟩ := ZZ.out _ _ A1.out
  go_region_held3 (fun W => W.cell? ⟨K, 1, none⟩ = some (.int .i64 bk) ∧ W.cell? ⟨D, 0, none⟩ = some (.slice (some ⟨ra, 0, none⟩) N ca)) (go_keep)
    ((go_at_call 25; refine (HAK.out _).mono ?_; rintro e w3 ⟨rfl, hw3⟩; have A3 := hid A1.out.drew; rw [← hw3] at A3; obtain ⟨_, s1, _⟩ := ZZ.out _ _ A3.out; have s2 := (desk_rd hT.out A3.out).c0; clear hw3))
  clear HAK A1 c0 c1 pa pb z0 z1 z2 z3 z4 z5 s1 s2
  obtain ⟨z0, z1, z2, z3, z4, z5⟩ := ZZ.out _ _ A3.out
  go_wp2_with fail
  refine (HAM.out _).mono ?_
  rintro e w5 ⟨rfl, hw5⟩
  have A4 := hid A3.out
  rw [← hw5] at A4
  clear hw5 A3 z0 z1 z2 z3 z4 z5 HAM
  have A5 := hid (desk_out hT.out A4.out)
  clear A4
  have SS : Hid (∀ (X : List Comp) W, All (X ++ (hdL D (.slice (some ⟨ra, 0, none⟩) N ca) (.slice (some ⟨rb, 0, none⟩) N cb) vm (pA T) (pB T) M ++ (OT n T k ++ (blkC K [.int .i64 kd, .int .i64 bk, .int .i64 nu, .int .i64 at_, .slice d1 d2 d3, .slice l1 l2 l3] 39 :: cs)))) W → W.cell? ⟨D, 0, none⟩ = some (.slice (some ⟨ra, 0, none⟩) N ca) ∧ W.cell? ⟨D, 1, none⟩ = some (.slice (some ⟨rb, 0, none⟩) N cb) ∧ W.cell? ⟨ra, k, none⟩ = some (.pointer (some ⟨t.g, 0, none⟩)) ∧ W.cell? ⟨rb, k, none⟩ = some (.pointer (some ⟨t.R, 0, none⟩)) ∧ W.cell? ⟨K, 2, none⟩ = some (.int .i64 nu) ∧ W.cell? ⟨K, 3, none⟩ = some (.int .i64 at_) ∧ W.cell? ⟨K, 4, none⟩ = some (.slice d1 d2 d3)) := hid (fun X W hW => by
    obtain ⟨a1, a2, a3, a4⟩ := hd_reads hT.out hW
    obtain ⟨_, _, b1, b2, b3, _⟩ := ZZ.out (X ++ (hdL D (.slice (some ⟨ra, 0, none⟩) N ca) (.slice (some ⟨rb, 0, none⟩) N cb) vm (pA T) (pB T) M ++ OT n T k)) W (by simpa [List.append_assoc] using hW)
    exact ⟨a1, a2, a3, a4, b1, b2, b3⟩)
  clear ZZ
  have HN64 := hid (show n ≤ 64 from Nat.le_trans hok.out.bk.nlv hok.out.bk.lv64)
  have q0 := hid (SS.out (poolC Q :: blkC t.g (bookL n t.lv t.ps) 70 :: refL t.R t.v t.rs) _ A5.out)
  obtain ⟨c0, c1, pa, pb, z2, z3, z4⟩ := q0.out
  go_wp2_with fail
  go_region_held3 (fun W => W.cell? ⟨D, 0, none⟩ = some (.slice (some ⟨ra, 0, none⟩) N ca) ∧ W.cell? ⟨D, 1, none⟩ = some (.slice (some ⟨rb, 0, none⟩) N cb) ∧ W.cell? ⟨ra, k, none⟩ = some (.pointer (some ⟨t.g, 0, none⟩)) ∧ W.cell? ⟨rb, k, none⟩ = some (.pointer (some ⟨t.R, 0, none⟩)) ∧ W.cell? ⟨K, 2, none⟩ = some (.int .i64 nu) ∧ W.cell? ⟨K, 3, none⟩ = some (.int .i64 at_) ∧ W.cell? ⟨K, 4, none⟩ = some (.slice d1 d2 d3)) (first | exact q0.out | exact q1.out | exact q2.out)
    (first
      | (go_at_call 18; refine (Last_mem A5.out.drew (by simp) (by simp) hok.out.bk).mono ?_; rintro e w6 ⟨rfl, hb⟩; have A6 := hid A5.out.drew; rw [← hb] at A6; have q1 := hid (SS.out (poolC Q :: blkC t.g (bookL n t.lv t.ps) 70 :: refL t.R t.v t.rs) _ A6.out); clear hb)
      | (go_at_call 31; refine (rLast_all A6.out.refF hok.out.rs HN64.out (fun i => (hok.out.bk.cap i).1)).mono ?_; rintro e w7 ⟨rfl, hb⟩; have A7 := hid (A6.out.later hb); have q2 := hid (SS.out (poolC Q :: blkC t.g (bookL n t.lv t.ps) 70 :: refL t.R t.v t.rs) _ A7.out); clear hb))
  clear c0 c1 pa pb z2 z3 z4 q0 q1 q2
  go_wp2
  go_ret
  exact ⟨rfl, HN.out ▸ (DeskI.same hT.out HF.out (by have := HF.out.few; omega) HF.out.short A7.out).drop⟩
end Go.Proofs.Ytaomhahmpbfjhaa

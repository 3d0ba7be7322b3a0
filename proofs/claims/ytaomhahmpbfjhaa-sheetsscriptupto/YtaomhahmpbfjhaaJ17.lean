import Derived.Test.YtaomhahmpbfjhaaRSince
import Derived.Test.YtaomhahmpbfjhaaJ12
import Derived.Test.YtaomhahmpbfjhaaJ15
import Derived.Test.YtaomhahmpbfjhaaJ14
namespace Go.Proofs.Ytaomhahmpbfjhaa
open Go.RowKit Go.Sort Go.Shelf
set_option linter.unusedVariables false

/-- Sheets that are read from a place on. -/
def ShAt (w : World) (ao : Option Addr) (xs : List Xs) : Prop :=
  ∀ (i : Nat) (x : Xs), xs[i]? = some x → ∃ g o, ao = some ⟨g, o, none⟩ ∧ w.cell? ⟨g, o + i * 3, none⟩ = some (.int .i64 (x.num : Int)) ∧ w.cell? ⟨g, o + i * 3 + 1, none⟩ = some (.int .i64 (x.at_ : Int)) ∧ w.cell? ⟨g, o + i * 3 + 2, none⟩ = some (.slice x.ao x.len x.cap) ∧ Reads w (.slice x.ao x.len x.cap) x.bs

theorem drewN_drewN (w : World) (a b : Nat) : (w.drewN a).drewN b = w.drewN (a + b) := by
  simp [World.drewN, Nat.add_assoc]

set_option maxRecDepth 100000 in
set_option maxHeartbeats 4000000 in
theorem lsame_eq {w : World} {ao bo : Option Addr} {k ca cb : Nat} {xs ys : List Xs} (hx : ShAt w ao xs) (hy : ShAt w bo ys) (hk : xs.map Xs.key = ys.map Xs.key) (hlk : k = xs.length) (hlen : k ≤ 1000) (hb : ∀ x ∈ xs, x.bs.length ≤ 2304) :
    Calls Try.prog 16 #[.slice ao k ca, .slice bo k cb] w fun e w' => e = .returned (.bool true) ∧ ∃ q, w' = w.drewN q := by
  have HX := hid hx
  have HY := hid hy
  have HK := hid hk
  have HB := hid hb
  have HL := hid hlen
  have HLK := hid hlk
  clear hx hy hk hb hlen hlk
  have hne : ((k : Int) != (k : Int)) = false := by simp
  refine (callsIn_wide (n := 9)).1 (callsIn_of_wp Try.func16 rfl trivial ?_ rfl)
  simp only [Try.ntmps16, List.size_toArray, List.length_cons, List.length_nil, Nat.reduceAdd, Nat.reduceSub, Array.replicate_succ, Array.replicate_zero, List.push_toArray, List.append_toArray, List.nil_append, List.cons_append]
  gi_wp2
  gi_loopw [5, 13, 14, 15, 16, 17, 18, 19, 20, 21, 22, 23, 24, 25, 26, 27, 28, 29, 30, 31, 32, 33, 34, 35, 36, 37, 38, 39, 40, 41, 42, 43, 44, 45, 46, 47, 48, 49, 50, 51, 52, 53, 54] (fun p5 p13 p14 p15 p16 p17 p18 p19 p20 p21 p22 p23 p24 p25 p26 p27 p28 p29 p30 p31 p32 p33 p34 p35 p36 p37 p38 p39 p40 p41 p42 p43 p44 p45 p46 p47 p48 p49 p50 p51 p52 p53 p54 wr => ∃ i q : Nat, p13 = .int .i64 i ∧ i ≤ k ∧ w.drewN q = wr)
    (fun p5 p13 p14 p15 p16 p17 p18 p19 p20 p21 p22 p23 p24 p25 p26 p27 p28 p29 p30 p31 p32 p33 p34 p35 p36 p37 p38 p39 p40 p41 p42 p43 p44 p45 p46 p47 p48 p49 p50 p51 p52 p53 p54 _ => match p13 with | .int _ i => (k - i).toNat | _ => 0)
  case atStart => exact ⟨0, 0, rfl, by omega, rfl⟩
  case round =>
    obtain ⟨i, q, rfl, hi, rfl⟩ := hrel
    by_cases hc : (i : Int) < (k : Int)
    · have hik : i < k := by omega
      have hix : i < xs.length := by rw [← HLK.out]; exact hik
      obtain ⟨x, hxi⟩ : ∃ x, xs[i]? = some x := ⟨_, List.getElem?_eq_getElem hix⟩
      have hkk : (ys.map Xs.key)[i]? = some x.key := by rw [← HK.out, List.getElem?_map, hxi]; rfl
      obtain ⟨y, hyi, hye⟩ : ∃ y, ys[i]? = some y ∧ y.key = x.key := by
        rw [List.getElem?_map] at hkk
        cases e : ys[i]? with
        | none => rw [e] at hkk; cases hkk
        | some y => rw [e] at hkk; exact ⟨y, rfl, Option.some.inj hkk⟩
      simp only [Xs.key, Prod.mk.injEq] at hye
      obtain ⟨ye1, ye2, ye3⟩ := hye
      obtain ⟨g, o, rfl, c0, c1, c2, r1⟩ := HX.out i x hxi
      obtain ⟨g', o', rfl, e0, e1, e2, r2⟩ := HY.out i y hyi
      rw [ye1] at e0
      rw [ye2] at e1
      rw [ye3] at r2
      have LF := hid (fun m => (callsIn_wide (n := 8)).2 ((same_eq ((r1.drewN q).drewN m) ((r2.drewN q).drewN m) (by have := HB.out x (List.mem_of_getElem? hxi); omega)).mono (fun e w' (h : _ ∧ _) => (⟨h.1, by
        obtain ⟨q', hq'⟩ := h.2
        exact ⟨m + q', by rw [hq', drewN_drewN]⟩⟩ : _ ∧ ∃ m', w' = (w.drewN q).drewN m'))))
      have f0 : (w.drewN q).cell? ⟨g, o + i * 3, none⟩ = some (.int .i64 (x.num : Int)) := c0
      have f1 : (w.drewN q).cell? ⟨g, o + i * 3 + 1, none⟩ = some (.int .i64 (x.at_ : Int)) := c1
      have f2 : (w.drewN q).cell? ⟨g, o + i * 3 + 2, none⟩ = some (.slice x.ao x.len x.cap) := c2
      have h0 : (w.drewN q).cell? ⟨g', o' + i * 3, none⟩ = some (.int .i64 (x.num : Int)) := e0
      have h1 : (w.drewN q).cell? ⟨g', o' + i * 3 + 1, none⟩ = some (.int .i64 (x.at_ : Int)) := e1
      have h2 : (w.drewN q).cell? ⟨g', o' + i * 3 + 2, none⟩ = some (.slice y.ao y.len y.cap) := e2
      have wi : IntKind.i64.wrap ((i : Int) + 1) = ((i + 1 : Nat) : Int) := by have := HL.out; rw [IntKind.wrap_i64]; omega
      have fin : Hid (∀ nq, w.drewN (q + nq) = (w.drewN q).drewN nq) := hid (fun nq => (drewN_drewN w q nq).symm)
      generalize hW : w.drewN q = W at *
      have HW := hid hW
      have hi0 : (0 : Int) ≤ (i : Int) := by omega
      clear hW r1 r2 c0 c1 c2 e0 e1 e2 hxi hkk hyi ye1 ye2 ye3 hix
      have wfa : ∀ f, Fence.wide.fn f = True := fun _ => rfl
      gi_wp2
      refine wpIn_region_quiet_lit rfl (by kernel_rfl) (by kernel_rfl) ?_
      repeat (quiet_step_in (first | with_reducible exact LF.out _ ))
      refine wpQuietIn_nil ?_
      rintro w2 ⟨nq, rfl⟩
      clear wfa LF f0 f1 f2 h0 h1 h2 HX HY
      gi_wp2
      first
        | exact ⟨⟨i + 1, q + nq, rfl, by omega, fin.out nq⟩, by simp only; omega⟩
        | (go_roundw
           case rel => exact ⟨i + 1, q + nq, rfl, by omega, fin.out nq⟩
           case measure => simp only; omega)
    · gi_wp2
      go_ret
      exact ⟨rfl, q, rfl⟩

end Go.Proofs.Ytaomhahmpbfjhaa

namespace Go.Proofs.Ytaomhahmpbfjhaa
open Go.RowKit
set_option linter.unusedVariables false

theorem flatX_nil : flatX [] = [] := rfl
/-- A row of sheets and their bytes, as they are read. -/
theorem ShAt.of {w : World} {ao : Option Addr} {m c : Nat} {xs : List Xs} {cs : List Comp} (hA : All cs w) (hrow : rowC 51 3 (.slice ao m c) xs.length (flatX xs) ∈ cs) (hd : ∀ x ∈ xs, datC x ∈ cs) : ShAt w ao xs := by
  intro i x hx
  have h : w.ownsRow 0 51 3 (.slice ao m c) xs.length (flatX xs) := (hA.mem hrow).2.1
  obtain ⟨g, rfl, _, y0, y1, y2⟩ := rowX_at h hx
  refine ⟨g, 0, rfl, by rw [Nat.zero_add]; exact y0, by rw [Nat.zero_add]; exact y1, by rw [Nat.zero_add]; exact y2, ?_⟩
  exact Reads.of_owns (show w.ownsRow 0 5 1 x.v x.bs.length (cellsB x.bs) from (hA.mem (hd x (List.mem_of_getElem? hx))).2.1)
theorem ShAt.take {w : World} {ao : Option Addr} {xs : List Xs} (h : ShAt w ao xs) (m : Nat) : ShAt w ao (xs.take m) := by
  intro i x hx
  rw [List.getElem?_take] at hx
  split at hx
  · exact h i x hx
  · cases hx
theorem keys_short {S : Sheets} {n : Nat} {a : Nat} {ys : List Xs} (h : ys.map Xs.key = newS S a (List.range n)) (hcap : ∀ i, (S i).2.length ≤ 2304) : (∀ y ∈ ys, y.bs.length ≤ 2304) ∧ ys.length ≤ n := by
  constructor
  · intro y hy
    have hm : y.key ∈ newS S a (List.range n) := by rw [← h]; exact List.mem_map_of_mem hy
    have e2 : y.key.2 = S y.key.1 := (newS_mem hm).2.2
    have : y.bs = (S y.num).2 := congrArg Prod.snd e2
    rw [this]; exact hcap _
  · have : (ys.map Xs.key).length ≤ n := by
      rw [h]
      exact Nat.le_trans (List.length_filterMap_le _ _) (by simp)
    simpa using this

set_option maxHeartbeats 3200000 in
set_option maxRecDepth 1000000 in
theorem since_any {D n k i : Nat} {va vb vm : Value} {Q : Pool} {T : List Tq} {M : List Mk} {cs : List Comp} {w : World} (at_ limit : Int) (hA : All (deskL D n va vb vm Q T M ++ cs) w) (hF : DF Q n T M i) (hk : k < T.length) (hi : i ≤ 1099511627000) : Calls Try.prog 28 #[.pointer (some ⟨D, 0, none⟩), .int .i64 (k : Int), .int .i64 at_, .int .i64 limit] w fun e w' => e = .returned (.bool true) ∧ DeskI D n T.length (i + 64) cs w' := by
  obtain ⟨t, hT⟩ : ∃ t, Hid (T[k]? = some t) := ⟨_, hid (List.getElem?_eq_getElem hk)⟩
  have hok := hid (hF.ok t (List.mem_of_getElem? hT.out))
  obtain ⟨ra, ca, rb, cb, rfl, rfl, RD⟩ := desk_reads hT.out hA
  obtain ⟨c0, c1, pa, pb⟩ := RD
  have j1 : (k : Int) < (T.length : Int) := by omega
  have HF := hid hF
  obtain ⟨h, hh, hlv⟩ := hok.out.bk.pow
  have HLV := hid hlv
  have A0 := hid (by have := desk_out hT.out hA; rw [hlv] at this; exact this)
  have HB := hid (by have := hok.out.bk; rw [hlv] at this; exact this)
  have hcap := hid hok.out.bk.cap
  have hn64 : n ≤ 64 := Nat.le_trans hok.out.bk.nlv hok.out.bk.lv64
  have FND := hid (show sel t.N (2 ^ h) at_.toNat (vis t.N at_.toNat h 1) = newS t.S at_.toNat (List.range n) by rw [HB.out.foundAll, newS_n HB.out.zero HB.out.nlv])
  clear hA hF hlv
  have SS : Hid (∀ (X : List Comp) (vm : Value) (M : List Mk) W, All (X ++ (hdL D (.slice (some ⟨ra, 0, none⟩) T.length ca) (.slice (some ⟨rb, 0, none⟩) T.length cb) vm (pA T) (pB T) M ++ (OT n T k ++ cs))) W → W.cell? ⟨D, 0, none⟩ = some (.slice (some ⟨ra, 0, none⟩) T.length ca) ∧ W.cell? ⟨D, 1, none⟩ = some (.slice (some ⟨rb, 0, none⟩) T.length cb) ∧ W.cell? ⟨ra, k, none⟩ = some (.pointer (some ⟨t.g, 0, none⟩)) ∧ W.cell? ⟨rb, k, none⟩ = some (.pointer (some ⟨t.R, 0, none⟩))) := hid (fun X vm M W hW => by
    obtain ⟨a1, a2, a3, a4⟩ := hd_reads (X := X) hT.out hW
    exact ⟨a1, a2, a3, a4⟩)
  have C20 := hid (given_all (at_ := at_) (lim := -1) A0.out HB.out hh (by decide))
  go_enter Try.func28, Try.ntmps28
  go_wp2_with fail
  refine C20.out.mono ?_
  rintro e w1 ⟨v1, ys, rfl, hys, A1⟩
  have hky : ys.map Xs.key = newS t.S at_.toNat (List.range n) := by
    rcases hys with h | ⟨_, h⟩
    · rw [h, FND.out]
    · omega
  obtain ⟨ao1, k1, hv1⟩ := owns_form (show w1.ownsRow 0 51 3 v1 ys.length (flatX ys) from A1.1.2.1)
  subst hv1
  have A1 := hid A1
  have HKY := hid hky
  clear C20 A0 c0 c1 pa pb hys hky
  obtain ⟨c0, c1, pa, pb⟩ := SS.out (_ :: (ys.map datC ++ (poolC Q :: blkC t.g (bookL n (2 ^ h) t.ps) 70 :: refL t.R t.v t.rs))) _ _ _ (by simpa [List.append_assoc] using A1.out)
  have A2 : Hid (All (refL t.R t.v t.rs ++ (rowC 51 3 (.slice ao1 ys.length k1) ys.length (flatX ys) :: (ys.map datC ++ (poolC Q :: blkC t.g (bookL n (2 ^ h) t.ps) 70 :: (hdL D (.slice (some ⟨ra, 0, none⟩) T.length ca) (.slice (some ⟨rb, 0, none⟩) T.length cb) vm (pA T) (pB T) M ++ (OT n T k ++ cs)))))) w1) := hid (by
    refine A1.out.perm ?_
    have := perm_by 5 [[rowC 51 3 (.slice ao1 ys.length k1) ys.length (flatX ys)], ys.map datC, [poolC Q, blkC t.g (bookL n (2 ^ h) t.ps) 70], refL t.R t.v t.rs, (hdL D (.slice (some ⟨ra, 0, none⟩) T.length ca) (.slice (some ⟨rb, 0, none⟩) T.length cb) vm (pA T) (pB T) M ++ (OT n T k ++ cs))] [3, 0, 1, 2, 4] rfl (by decide)
    simpa [List.getD] using this)
  clear A1
  have C15 := hid (rSince_all (at_ := at_) A2.out hok.out.rs hn64 (fun i => (hcap.out i).2))
  clear A2
  go_wp2_with fail
  refine C15.out.mono ?_
  rintro e w2 ⟨ao2, k2, zs, rfl, hkz, A3⟩
  have A3 := hid A3
  have HKZ := hid hkz
  clear C15 c0 c1 pa pb hkz
  obtain ⟨hb1, hl1⟩ := keys_short HKY.out (fun i => (hcap.out i).2)
  obtain ⟨hb2, hl2⟩ := keys_short HKZ.out (fun i => (hcap.out i).2)
  have hle : ys.length = zs.length := by
    have := congrArg List.length (HKY.out.trans HKZ.out.symm)
    simpa using this
  have SY : Hid (ShAt w2 ao1 ys) := hid (ShAt.of A3.out (m := ys.length) (c := k1) (by simp [gathL]) (fun x hx => by
    have := List.mem_map_of_mem (f := datC) hx
    simp [gathL, this]))
  have SZ : Hid (ShAt w2 ao2 zs) := hid (ShAt.of A3.out (m := zs.length) (c := k2) (by simp [gathL]) (fun x hx => by
    have := List.mem_map_of_mem (f := datC) hx
    simp [gathL, this]))
  have C16 : Hid (Calls Try.prog 16 #[.slice ao1 ys.length k1, .slice ao2 zs.length k2] w2 fun e w' => e = .returned (.bool true) ∧ ∃ q, w' = w2.drewN q) := hid (by
    rw [← hle]
    exact lsame_eq (k := ys.length) (ca := k1) (cb := k2) SY.out SZ.out (HKY.out.trans HKZ.out.symm) rfl (by omega) hb1)
  have HB1 := hid hb1
  have HB2 := hid hb2
  have HLE := hid hle
  have HL2 := hid hl2
  clear hb1 hb2 SY SZ hle hl2
  go_wp2_with fail
  refine C16.out.mono ?_
  rintro e w3 ⟨rfl, q, hw3⟩
  have A4 := hid (A3.out.drewN q)
  rw [← hw3] at A4
  clear A3 hw3 C16
  obtain ⟨FX, hFX⟩ : ∃ FX, Hid (FX = (rowC 51 3 (.slice ao2 zs.length k2) zs.length (flatX zs) :: zs.map datC) ++ (refL t.R t.v t.rs ++ [poolC Q, blkC t.g (bookL n (2 ^ h) t.ps) 70])) := ⟨_, hid rfl⟩
  have A5 : Hid (∃ vm' M', M'.length = M.length + 0 ∧ (∀ y ∈ M', y.m ≤ 2313) ∧ All (rowC 51 3 (.slice ao1 ys.length k1) ys.length (flatX ys) :: ((ys.drop 0).map datC ++ (FX ++ (hdL D (.slice (some ⟨ra, 0, none⟩) T.length ca) (.slice (some ⟨rb, 0, none⟩) T.length cb) vm' (pA T) (pB T) M' ++ (OT n T k ++ cs))))) w3) := hid ⟨vm, M, rfl, HF.out.short, by
    refine A4.out.perm ?_
    have := perm_by 6 [rowC 51 3 (.slice ao2 zs.length k2) zs.length (flatX zs) :: zs.map datC, refL t.R t.v t.rs, [rowC 51 3 (.slice ao1 ys.length k1) ys.length (flatX ys)], ys.map datC, [poolC Q, blkC t.g (bookL n (2 ^ h) t.ps) 70], (hdL D (.slice (some ⟨ra, 0, none⟩) T.length ca) (.slice (some ⟨rb, 0, none⟩) T.length cb) vm (pA T) (pB T) M ++ (OT n T k ++ cs))] [2, 3, 0, 1, 4, 5] rfl (by decide)
    rw [hFX.out]
    simpa [List.getD, gathL] using this⟩
  clear A4
  have hfew := HF.out.few
  go_wp2_with fail
  go_loopw [37] (fun iv wr => ∃ (j : Nat), j ≤ ys.length ∧ iv = .int .i64 (j : Int) ∧ Hid (∃ vm' M', M'.length = M.length + j ∧ (∀ y ∈ M', y.m ≤ 2313) ∧ All (rowC 51 3 (.slice ao1 ys.length k1) ys.length (flatX ys) :: ((ys.drop j).map datC ++ (FX ++ (hdL D (.slice (some ⟨ra, 0, none⟩) T.length ca) (.slice (some ⟨rb, 0, none⟩) T.length cb) vm' (pA T) (pB T) M' ++ (OT n T k ++ cs))))) wr)) (fun iv _ => ys.length - (intOf iv).toNat)
  case atStart => exact ⟨0, by omega, rfl, A5⟩
  case round =>
    clear A5
    obtain ⟨j, hj, rfl, A6⟩ := hrel
    by_cases hjl : j < ys.length
    · have l1 : decide ((j : Int) < (ys.length : Int)) = true := decide_eq_true (by omega)
      have l2 : (j : Int) < (ys.length : Int) := by omega
      obtain ⟨x, hx⟩ : ∃ x, ys[j]? = some x := ⟨_, List.getElem?_eq_getElem hjl⟩
      have hxm := List.mem_of_getElem? hx
      obtain ⟨vm', M', hM', hs', A7⟩ := A6.out
      obtain ⟨g1, rfl, lg, y0, y1, y2⟩ := rowX_at (show wr.ownsRow 0 51 3 (.slice ao1 ys.length k1) ys.length (flatX ys) from A7.1.2.1) hx
      have edr : ys.drop j = x :: ys.drop (j + 1) := by
        have e := (List.getElem?_eq_some_iff.1 hx).2
        rw [← e]
        exact List.drop_eq_getElem_cons hjl
      have A8 : All (ownC 5 x.v (cellsB x.bs) :: ((rowC 51 3 (.slice (some ⟨g1, 0, none⟩) ys.length k1) ys.length (flatX ys) :: ((ys.drop (j + 1)).map datC ++ FX)) ++ (hdL D (.slice (some ⟨ra, 0, none⟩) T.length ca) (.slice (some ⟨rb, 0, none⟩) T.length cb) vm' (pA T) (pB T) M' ++ (OT n T k ++ cs)))) wr := by
        rw [← rowC_own]
        refine A7.perm ?_
        rw [edr]
        simp only [List.map_cons, List.cons_append, List.append_assoc]
        exact List.Perm.swap _ _ _
      have C48 := hid (takes_hd (A8.alloc (.cells #[.int .i64 (x.num : Int), .int .i64 (x.at_ : Int), .slice x.ao x.len x.cap] 51)) (by have := HB1.out x hxm; simpa [cellsB] using this) (by omega) hs')
      have HM := hid hM'
      clear A6 A7 A8 hx hxm edr hM' hs'
      simp only [Xs.v] at C48
      go_wp2_with fail
      refine C48.out.mono ?_
      rintro e w5 ⟨rfl, y, vm2, hy, A9⟩
      have A9 := hid A9
      have HY := hid hy
      clear C48 hy y0 y1 y2 lg
      go_wp2_with fail
      go_roundw
      case rel => exact ⟨j + 1, by omega, by go_num, hid ⟨vm2, M' ++ [y], by rw [List.length_append, HM.out, List.length_singleton]; omega, HY.out, by have := A9.out; simpa only [List.cons_append, List.append_assoc] using this⟩⟩
      case measure => simp [intOf]; omega
    · have l1 : decide ((j : Int) < (ys.length : Int)) = false := decide_eq_false (by omega)
      have l2 : ¬ ((j : Int) < (ys.length : Int)) := by omega
      have ej : j = ys.length := by omega
      obtain ⟨vm', M', hM', hs', A7⟩ := A6.out
      have A8 : Hid (All ((rowC 51 3 (.slice ao1 ys.length k1) ys.length (flatX ys) :: FX) ++ (hdL D (.slice (some ⟨ra, 0, none⟩) T.length ca) (.slice (some ⟨rb, 0, none⟩) T.length cb) vm' (pA T) (pB T) M' ++ (OT n T k ++ cs))) wr) := hid (by
        have h1 := A7
        rw [ej, List.drop_length] at h1
        simpa only [List.map_nil, List.nil_append, List.cons_append] using h1)
      have HM := hid (hM'.trans (by rw [ej]))
      have HS' := hid hs'
      clear A6 A7 hM' hs' ej
      obtain ⟨m, hm⟩ : ∃ m, m = amN limit (zs.length + 1) := ⟨_, rfl⟩
      have hmz : m ≤ zs.length := by have := amN_lt limit (n := zs.length + 1) (by omega); omega
      have hz64 := HL2.out
      have C25 : Hid (∀ W, Calls Try.prog 25 #[.int .i64 limit, .int .i64 ((zs.length : Int) + 1)] W fun e w' => e = .returned (.int .i64 (m : Int)) ∧ w' = W) := hid (fun W => by
        rw [hm]
        exact among_is limit (zs.length + 1) (by omega) (by omega))
      clear hm
      go_wp2_with fail
      refine (C25.out _).mono ?_
      rintro e w6 ⟨rfl, rfl⟩
      clear C25
      obtain ⟨c0, c1, pa, pb⟩ := SS.out _ _ _ _ A8.out
      have B8 := hid (show All ((rowC 51 3 (.slice ao1 ys.length k1) ys.length (flatX ys) :: FX) ++ (hdL D (.slice (some ⟨ra, 0, none⟩) T.length ca) (.slice (some ⟨rb, 0, none⟩) T.length cb) vm' (pA T) (pB T) M' ++ (OT n T k ++ cs))) w6.drew from A8.out.drew)
      have hk2 : m ≤ k2 := by
        have hr : w6.ownsRow 0 51 3 (.slice ao2 zs.length k2) zs.length (flatX zs) := (A8.out.mem (c := rowC 51 3 (.slice ao2 zs.length k2) zs.length (flatX zs)) (by rw [hFX.out]; simp)).2.1
        rcases hr.2 with ⟨e, h0⟩ | ⟨g, cap, cur, e, _, h2, h3, h4, h5, h6⟩
        · omega
        · simp only [Value.slice.injEq] at e
          omega
      have ZA : Hid (∀ (Y : List Comp) W, All (Y ++ ((rowC 51 3 (.slice ao1 ys.length k1) ys.length (flatX ys) :: FX) ++ (hdL D (.slice (some ⟨ra, 0, none⟩) T.length ca) (.slice (some ⟨rb, 0, none⟩) T.length cb) vm' (pA T) (pB T) M' ++ (OT n T k ++ cs)))) W → ShAt W ao2 (zs.take m)) := hid (fun Y W hW => by
        refine (ShAt.of hW (m := zs.length) (c := k2) (by rw [hFX.out]; simp) (fun x hx => ?_)).take m
        have := List.mem_map_of_mem (f := datC) hx
        rw [hFX.out]
        simp [this])
      have C20 : Hid (Calls Try.prog 20 #[.pointer (some ⟨t.g, 0, none⟩), .int .i64 at_, .int .i64 (m : Int)] w6.drew fun e w' => ∃ ao3 k3 ws, e = .returned (.slice ao3 m k3) ∧ ws.map Xs.key = (zs.take m).map Xs.key ∧ ShAt w' ao3 ws ∧ ∃ Y, All (Y ++ ((rowC 51 3 (.slice ao1 ys.length k1) ys.length (flatX ys) :: FX) ++ (hdL D (.slice (some ⟨ra, 0, none⟩) T.length ca) (.slice (some ⟨rb, 0, none⟩) T.length cb) vm' (pA T) (pB T) M' ++ (OT n T k ++ cs)))) w') := hid (by
        by_cases hm0 : m = 0
        · subst hm0
          refine (given_zero (g := t.g) (at_ := at_)).mono ?_
          rintro e w' ⟨rfl, hb⟩
          exact ⟨none, 0, [], rfl, by simp, fun i x hx => by simp at hx, [], B8.out.later hb⟩
        · have P0 : (( rowC 51 3 (.slice ao1 ys.length k1) ys.length (flatX ys) :: FX) ++ (hdL D (.slice (some ⟨ra, 0, none⟩) T.length ca) (.slice (some ⟨rb, 0, none⟩) T.length cb) vm' (pA T) (pB T) M' ++ (OT n T k ++ cs))).Perm (poolC Q :: blkC t.g (bookL n (2 ^ h) t.ps) 70 :: ([rowC 51 3 (.slice ao1 ys.length k1) ys.length (flatX ys)] ++ ((rowC 51 3 (.slice ao2 zs.length k2) zs.length (flatX zs) :: zs.map datC) ++ (refL t.R t.v t.rs ++ (hdL D (.slice (some ⟨ra, 0, none⟩) T.length ca) (.slice (some ⟨rb, 0, none⟩) T.length cb) vm' (pA T) (pB T) M' ++ (OT n T k ++ cs)))))) := by
            have := perm_by 5 [[rowC 51 3 (.slice ao1 ys.length k1) ys.length (flatX ys)], rowC 51 3 (.slice ao2 zs.length k2) zs.length (flatX zs) :: zs.map datC, refL t.R t.v t.rs, [poolC Q, blkC t.g (bookL n (2 ^ h) t.ps) 70], (hdL D (.slice (some ⟨ra, 0, none⟩) T.length ca) (.slice (some ⟨rb, 0, none⟩) T.length cb) vm' (pA T) (pB T) M' ++ (OT n T k ++ cs))] [3, 0, 1, 2, 4] rfl (by decide)
            rw [hFX.out]
            simpa [List.getD] using this
          refine (given_lim (at_ := at_) (lim := (m : Int)) (B8.out.perm P0) HB.out hh (by omega)).mono ?_
          rintro e w' ⟨v3, ws, rfl, hws, A9⟩
          have hlz : (zs.map Xs.key).length = zs.length := by simp
          have hkw : ws.map Xs.key = (zs.take m).map Xs.key := by
            rw [FND.out, ← HKZ.out] at hws
            rcases hws with ⟨h1, h2⟩ | ⟨h1, h2⟩
            · have := congrArg List.length h1
              simp only [List.length_map] at this
              omega
            · obtain ⟨r, hr⟩ := h1
              rw [List.map_take, ← hr, List.take_append_of_le_length (by simp; omega), List.take_of_length_le (by simp; omega)]
          have hwl : ws.length = m := by
            have := congrArg List.length hkw
            simp only [List.length_map, List.length_take] at this
            omega
          obtain ⟨ao3, k3, hv3⟩ := owns_form (show w'.ownsRow 0 51 3 v3 ws.length (flatX ws) from A9.1.2.1)
          subst hv3
          refine ⟨ao3, k3, ws, by rw [hwl], hkw, ShAt.of A9 (m := ws.length) (c := k3) (by simp) (fun x hx => ?_), rowC 51 3 (.slice ao3 ws.length k3) ws.length (flatX ws) :: ws.map datC, ?_⟩
          · have := List.mem_map_of_mem (f := datC) hx
            simp [this]
          · refine A9.perm ?_
            rw [List.cons_append]
            exact (List.Perm.append_left _ P0.symm).cons _)
      have HM' := HM.out
      have hlen0 : ∀ (ws : List Xs), ws.map Xs.key = (zs.take m).map Xs.key → m = ws.length := fun ws hw => by
        have := congrArg List.length hw
        simp only [List.length_map, List.length_take] at this
        omega
      have HLN := hid hlen0
      have HBW : Hid (∀ (ws : List Xs), ws.map Xs.key = (zs.take m).map Xs.key → ∀ x ∈ ws, x.bs.length ≤ 2304) := hid (fun ws hw x hx => by
        have h1 : x.key ∈ (zs.take m).map Xs.key := by rw [← hw]; exact List.mem_map_of_mem hx
        obtain ⟨z, hz, he⟩ := List.mem_map.1 h1
        have h2 := HB2.out z (List.mem_of_mem_take hz)
        have h3 : z.bs = x.bs := congrArg (fun k => k.2.2) he
        rw [← h3]; exact h2)
      have q0 : Hid (w6.cell? ⟨D, 0, none⟩ = some (.slice (some ⟨ra, 0, none⟩) T.length ca) ∧ w6.cell? ⟨ra, k, none⟩ = some (.pointer (some ⟨t.g, 0, none⟩))) := hid ⟨c0, pa⟩
      clear hlen0 B8 HM' A8
      go_wp2_with fail
      go_region_held3 (fun W => W.cell? ⟨D, 0, none⟩ = some (.slice (some ⟨ra, 0, none⟩) T.length ca) ∧ W.cell? ⟨ra, k, none⟩ = some (.pointer (some ⟨t.g, 0, none⟩))) (first | exact q0.out | exact q1.out | exact q2.out)
        (first
          | (go_at_call 20; refine C20.out.mono ?_; rintro e w7 ⟨ao3, k3, ws, rfl, hkw, hsh, Y, A9⟩; have A9 := hid A9; have HKW := hid hkw; have HSH := hid hsh; have q1 := hid (by obtain ⟨a1, a2, a3, a4⟩ := SS.out _ _ _ _ (by have := A9.out; rw [← List.append_assoc] at this; exact this); exact (⟨a1, a3⟩ : w7.cell? ⟨D, 0, none⟩ = some (.slice (some ⟨ra, 0, none⟩) T.length ca) ∧ w7.cell? ⟨ra, k, none⟩ = some (.pointer (some ⟨t.g, 0, none⟩)))); clear hkw hsh)
          | (go_at_call 16; refine (lsame_eq (xs := ws) (ys := zs.take m) HSH.out (ZA.out _ _ A9.out) HKW.out (HLN.out ws HKW.out) (by omega) (HBW.out ws HKW.out)).mono ?_; rintro e w8 ⟨rfl, q, hw8⟩; have A10 := hid (A9.out.drewN q); rw [← hw8] at A10; have q2 := hid (by obtain ⟨a1, a2, a3, a4⟩ := SS.out _ _ _ _ (by have := A10.out; rw [← List.append_assoc] at this; exact this); exact (⟨a1, a3⟩ : w8.cell? ⟨D, 0, none⟩ = some (.slice (some ⟨ra, 0, none⟩) T.length ca) ∧ w8.cell? ⟨ra, k, none⟩ = some (.pointer (some ⟨t.g, 0, none⟩)))); clear hw8))
      clear C20 A9 q0 q1 q2 c0 c1 pa pb ZA
      go_wp2
      go_ret
      refine ⟨rfl, DeskI.same hT.out HF.out (by have := HM.out; omega) HS'.out (vm := vm') (va := .slice (some ⟨ra, 0, none⟩) T.length ca) (vb := .slice (some ⟨rb, 0, none⟩) T.length cb) ?_⟩
      rw [HLV.out]
      have h1 := A10.out.sublist (List.sublist_append_right _ _)
      rw [hFX.out] at h1
      have h2 := h1.perm (ds := (poolC Q :: blkC t.g (bookL n (2 ^ h) t.ps) 70 :: (refL t.R t.v t.rs ++ (hdL D (.slice (some ⟨ra, 0, none⟩) T.length ca) (.slice (some ⟨rb, 0, none⟩) T.length cb) vm' (pA T) (pB T) M' ++ (OT n T k ++ cs)))) ++ ([rowC 51 3 (.slice ao1 ys.length k1) ys.length (flatX ys)] ++ (rowC 51 3 (.slice ao2 zs.length k2) zs.length (flatX zs) :: zs.map datC))) (by
        have := perm_by 5 [[rowC 51 3 (.slice ao1 ys.length k1) ys.length (flatX ys)], rowC 51 3 (.slice ao2 zs.length k2) zs.length (flatX zs) :: zs.map datC, refL t.R t.v t.rs, [poolC Q, blkC t.g (bookL n (2 ^ h) t.ps) 70], (hdL D (.slice (some ⟨ra, 0, none⟩) T.length ca) (.slice (some ⟨rb, 0, none⟩) T.length cb) vm' (pA T) (pB T) M' ++ (OT n T k ++ cs))] [3, 2, 4, 0, 1] rfl (by decide)
        simpa [List.getD] using this)
      exact h2.sublist (List.sublist_append_left _ _)
end Go.Proofs.Ytaomhahmpbfjhaa

namespace Go.Proofs.Ytaomhahmpbfjhaa
open Go.RowKit
set_option linter.unusedVariables false

set_option maxHeartbeats 3200000 in
set_option maxRecDepth 1000000 in
theorem act_2 {D n i : Nat} {va vb vm : Value} {Q : Pool} {T : List Tq} {M : List Mk} {cs : List Comp} {w w0 : World} {x : Ac} {xs : List Sh} (hA : All (deskL D n va vb vm Q T M ++ cs) w) (hF : DF Q n T M i) (hin : inC w0 ∈ cs) (hx : AcIn w0 x xs) (hi : i ≤ 1099511627000) (hm : amN x.kind 7 = 2) : Calls Try.prog 9 #[.pointer (some ⟨D, 0, none⟩), .agg x.cells.toArray] w fun e w' => e = .returned (.bool true) ∧ DeskI D n T.length (i + 64) cs w' := by
  obtain ⟨kd, bk, nu, at_, d1, d2, d3, l1, l2, l3, data⟩ := x
  have hk : amN bk T.length < T.length := amN_lt _ hF.one
  obtain ⟨k, hk0⟩ : ∃ k, amN bk T.length = k := ⟨_, rfl⟩
  rw [hk0] at hk
  obtain ⟨t, hT⟩ : ∃ t, Hid (T[k]? = some t) := ⟨_, hid (List.getElem?_eq_getElem hk)⟩
  have hok := hid (hF.ok t (List.mem_of_getElem? hT.out))
  obtain ⟨K, hK⟩ : ∃ K, Hid (K = w.heap.size) := ⟨_, hid rfl⟩
  have A1 : Hid (All (deskL D n va vb vm Q T M ++ (blkC K [.int .i64 kd, .int .i64 bk, .int .i64 nu, .int .i64 at_, .slice d1 d2 d3, .slice l1 l2 l3] 39 :: cs)) (w.alloc (.cells #[.int .i64 kd, .int .i64 bk, .int .i64 nu, .int .i64 at_, .slice d1 d2 d3, .slice l1 l2 l3] 39))) := hid (by
    have h1 := hA.addBlk [.int .i64 kd, .int .i64 bk, .int .i64 nu, .int .i64 at_, .slice d1 d2 d3, .slice l1 l2 l3] 39
    rw [← hK.out] at h1
    exact h1.perm List.perm_middle.symm)
  obtain ⟨ra, ca, rb, cb, rfl, rfl, RD⟩ := desk_reads hT.out A1.out
  obtain ⟨c0, c1, pa, pb⟩ := RD
  simp only at hm
  have HAM : Hid (∀ W : World, Calls Try.prog 25 #[.int .i64 kd, .int .i64 7] W fun e w' => e = .returned (.int .i64 2) ∧ w' = W) := hid (fun W => by
    refine (among_is kd 7 (by decide) (by decide)).mono ?_
    rintro e w' ⟨rfl, rfl⟩
    rw [hm]
    exact ⟨rfl, rfl⟩)
  have HAK : Hid (∀ W : World, Calls Try.prog 25 #[.int .i64 bk, .int .i64 (T.length : Int)] W fun e w' => e = .returned (.int .i64 (k : Int)) ∧ w' = W) := hid (fun W => by
    refine (among_is bk T.length hF.one (by have := hF.four; omega)).mono ?_
    rintro e w' ⟨rfl, rfl⟩
    rw [hk0]
    exact ⟨rfl, rfl⟩)
  have HF := hid hF
  have HX := hid hx
  have HIN := hid hin
  have hN4 := hF.four
  have HKL := hid hk
  have j1 : (k : Int) < (T.length : Int) := by omega
  generalize hN : T.length = N at *
  have HN := hid hN
  clear hA hF hm hN hk0 hx hin hk
  show Calls Try.prog 9 #[.pointer (some ⟨D, 0, none⟩), .agg #[.int .i64 kd, .int .i64 bk, .int .i64 nu, .int .i64 at_, .slice d1 d2 d3, .slice l1 l2 l3]] w _
  go_enter Try.func9, Try.ntmps9
  go_upto_region 1 with fail
  rw [← hK.out]
  clear hK
  have ZZ : Hid (∀ (Y : List Comp) W, All (Y ++ (blkC K [.int .i64 kd, .int .i64 bk, .int .i64 nu, .int .i64 at_, .slice d1 d2 d3, .slice l1 l2 l3] 39 :: cs)) W → W.cell? ⟨K, 0, none⟩ = some (.int .i64 kd) ∧ W.cell? ⟨K, 1, none⟩ = some (.int .i64 bk) ∧ W.cell? ⟨K, 2, none⟩ = some (.int .i64 nu) ∧ W.cell? ⟨K, 3, none⟩ = some (.int .i64 at_) ∧ W.cell? ⟨K, 4, none⟩ = some (.slice d1 d2 d3) ∧ W.cell? ⟨K, 5, none⟩ = some (.slice l1 l2 l3)) := hid (fun Y W hW => by
    have e : W.heap[K]? = some (.cells [.int .i64 kd, .int .i64 bk, .int .i64 nu, .int .i64 at_, .slice d1 d2 d3, .slice l1 l2 l3].toArray 39 (0, 0)) := hW.blk (by simp)
    refine ⟨?_, ?_, ?_, ?_, ?_, ?_⟩ <;> (rw [cell_at e]; rfl))
  generalize (w.alloc (.cells #[.int .i64 kd, .int .i64 bk, .int .i64 nu, .int .i64 at_, .slice d1 d2 d3, .slice l1 l2 l3] 39)) = w1 at *
  obtain ⟨z0, z1, z2, z3, z4, z5⟩ := ZZ.out _ _ A1.out
  go_region_held3 (fun W => W.cell? ⟨K, 1, none⟩ = some (.int .i64 bk) ∧ W.cell? ⟨D, 0, none⟩ = some (.slice (some ⟨ra, 0, none⟩) N ca)) (go_keep)
    ((go_at_call 25; refine (HAK.out _).mono ?_; rintro e w3 ⟨rfl, hw3⟩; have A3 := hid A1.out.drew; rw [← hw3] at A3; obtain ⟨_, s1, _⟩ := ZZ.out _ _ A3.out; have s2 := (desk_rd hT.out A3.out).c0; clear hw3))
  clear HAK A1 c0 c1 pa pb z0 z1 z2 z3 z4 z5 s1 s2
  obtain ⟨z0, z1, z2, z3, z4, z5⟩ := ZZ.out _ _ A3.out
  go_wp2_with fail
  refine (HAM.out _).mono ?_
  rintro e w5 ⟨rfl, hw5⟩
  have A4 := hid A3.out
  rw [← hw5] at A4
  clear hw5 A3 z0 z1 z2 z3 z4 z5 HAM
  obtain ⟨z0, z1, z2, z3, z4, z5⟩ := ZZ.out _ _ A4.out
  have C := hid (since_any at_ nu (show All (deskL D n (.slice (some ⟨ra, 0, none⟩) N ca) (.slice (some ⟨rb, 0, none⟩) N cb) vm Q T M ++ (blkC K [.int .i64 kd, .int .i64 bk, .int .i64 nu, .int .i64 at_, .slice d1 d2 d3, .slice l1 l2 l3] 39 :: cs)) w5 from A4.out) HF.out (by rw [HN.out]; exact HKL.out) (by omega))
  go_wp2_with fail
  refine C.out.mono ?_
  rintro e w6 ⟨rfl, HI⟩
  have HI := hid HI.drop
  clear C z0 z1 z2 z3 z4 z5 A4
  go_wp2
  go_ret
  exact ⟨rfl, HN.out ▸ HI.out.more (by omega)⟩
end Go.Proofs.Ytaomhahmpbfjhaa

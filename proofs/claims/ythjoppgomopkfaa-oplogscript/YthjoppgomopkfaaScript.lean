import Derived.Test.YthjoppgomopkfaaActN
import Derived.Test.YthjoppgomopkfaaLog3
import Derived.Deep.CutBlock
namespace Go.Proofs.Ythjoppgomopkfaa
open Go.RowKit
set_option linter.unusedVariables false

theorem All.addOwn1 {cs : List Comp} {w : World} (h : All cs w) (e : TypeId) (u : Value) : All (ownC e (.slice (some ⟨w.heap.size, 0, none⟩) 1 1) [u] :: cs) (w.alloc (.cells #[u] e)) := by
  refine h.addOwn (ba w _) ?_
  exact ⟨rfl, Or.inr ⟨w.heap.size, 1, #[u], rfl, Nat.le_refl _, heap_alloc_new w _, Nat.le_refl _, by unfold maxLen; omega, rfl, rfl⟩⟩
theorem ActsAt.later {w w' : World} {v : Value} {xs : List Act0} (h : ActsAt w v xs) (hb : Below w.heap.size w w') {i : Nat} {x : Act0} (hx : xs[i]? = some x) : x.good w' := by
  have := acts_good h hx
  exact ⟨this.kd, this.lg, this.op, this.ms, this.rd.later hb, this.few⟩

theorem perm_start (a b c d : Comp) (X Y Z : List Comp) : (a :: b :: c :: d :: (X ++ (Y ++ Z))).Perm ((([a, c, b, d] ++ []) ++ ((Y ++ X) ++ [])) ++ Z) := by
  have := perm_by 7 [[a], [b], [c], [d], X, Y, Z] [0, 2, 1, 3, 5, 4, 6] rfl (by decide)
  simpa [List.getD] using this

set_option maxHeartbeats 3200000 in
set_option maxRecDepth 1000000 in
theorem script_walk {w : World} {sv : Value} {acts : List Act0} (hs : ActsAt w sv acts) (hlen : acts.length ≤ 1099511627744) (room : Int) (hr : i64In room) : Calls Try.prog 3 #[.int .i64 room, sv] w fun e w' => e = .returned (.bool true) ∧ Below w.heap.size w w' := by
  obtain ⟨ao, cp, rfl⟩ := acts_form hs
  have HS := hid hs
  clear hs
  by_cases hroom : 1 ≤ room ∧ room ≤ 64
  case neg =>
    have H1 := hid (New_no (w := w) room hroom)
    have H2 := hid (rNew_no (w := w) room hroom)
    go_enter Try.func3, Try.ntmps3
    go_wp2_with fail
    refine H1.out.mono ?_
    rintro e w1 ⟨rfl, rfl⟩
    go_wp2_with fail
    refine H2.out.mono ?_
    rintro e w2 ⟨rfl, rfl⟩
    go_wp2
    go_ret
    exact ⟨rfl, Below.refl _ _⟩
  obtain ⟨n, rfl⟩ : ∃ n : Nat, room = (n : Int) := ⟨room.toNat, by omega⟩
  have h0 : 0 < n := by omega
  have hn : n ≤ 64 := by omega
  have H1 := hid (New_ok (All.came w) n h0 hn)
  clear hroom hr
  go_enter Try.func3, Try.ntmps3
  go_wp2_with fail
  refine H1.out.mono ?_
  rintro e w1 ⟨g, h, rfl, A1⟩
  have H2 := hid (rNew_ok A1 n h0 hn)
  clear A1 H1
  go_wp2_with fail
  refine H2.out.mono ?_
  rintro e w2 ⟨p, rfl, A2⟩
  obtain ⟨D, hD⟩ : ∃ D, Hid (D = w2.heap.size + 1 + 1) := ⟨_, hid rfl⟩
  have A3 : Hid (DeskI n D 1 0 [inC w] (((w2.alloc (.cells #[.pointer (some ⟨g, 0, none⟩)] 23)).alloc (.cells #[.pointer (some ⟨p, 0, none⟩)] 27)).alloc (.cells #[.slice (some ⟨w2.heap.size, 0, none⟩) 1 1, .slice (some ⟨w2.heap.size + 1, 0, none⟩) 1 1, .slice none 0 0] 35))) := hid (by
    have B := (((A2.addRow0 (e := 69) (size := 8)).addOwn1 23 (.pointer (some ⟨g, 0, none⟩))).addOwn1 27 (.pointer (some ⟨p, 0, none⟩))).addBlk [.slice (some ⟨w2.heap.size, 0, none⟩) 1 1, .slice (some ⟨w2.heap.size + 1, 0, none⟩) 1 1, .slice none 0 0] 35
    simp only [World.size_alloc] at B
    refine ⟨.slice (some ⟨w2.heap.size, 0, none⟩) 1 1, .slice (some ⟨w2.heap.size + 1, 0, none⟩) 1 1, .slice none 0 0, [⟨g, h, p, 0, .slice none 0 0, [], List.replicate n Ent.zero⟩], [], by simp, ⟨fun t ht => ?_, by simp, by simp, by simp, fun x hx => by cases hx⟩, ?_⟩
    · rw [List.mem_singleton.1 ht]
      exact LogOk.new h0 hn 0 (by omega)
    · rw [hD.out]
      exact B.perm (perm_start _ _ _ _ _ _ _))
  clear A2 H2
  go_wp2_with fail
  rw [← hD.out]
  generalize (((w2.alloc (.cells #[.pointer (some ⟨g, 0, none⟩)] 23)).alloc (.cells #[.pointer (some ⟨p, 0, none⟩)] 27)).alloc (.cells #[.slice (some ⟨w2.heap.size, 0, none⟩) 1 1, .slice (some ⟨w2.heap.size + 1, 0, none⟩) 1 1, .slice none 0 0] 35)) = w3 at A3 ⊢
  clear hD
  go_loopw [46] (fun iv wr => ∃ (i : Nat), i ≤ acts.length ∧ iv = .int .i64 (i : Int) ∧ Hid (DeskI n D 1 i [inC w] wr)) (fun iv _ => acts.length - (intOf iv).toNat)
  case atStart => exact ⟨0, by omega, rfl, A3⟩
  case round =>
    clear A3
    obtain ⟨i, hi, rfl, HI⟩ := hrel
    by_cases hlt : i < acts.length
    · obtain ⟨x, hx⟩ : ∃ x, Hid (acts[i]? = some x) := ⟨_, hid (List.getElem?_eq_getElem hlt)⟩
      obtain ⟨va, vb, vm, T, M, hN1, hF, A1⟩ := HI.out
      have HB := hid (A1.into (w0 := w) (by simp))
      have HG : Hid (∀ W, Below w.heap.size w W → x.good W) := hid (fun W hb => HS.out.later hb hx.out)
      obtain ⟨ga, oa, rfl, hga, y0, y1, y2, y3, y4, y5, y6, y7, y8, y9, y10, y11⟩ := acts_cells HS.out HB.out hx.out
      have hK : ga ≠ wr.heap.size := by have := HB.out.size; omega
      have hT4 := hF.four
      obtain ⟨t0, hT0⟩ : ∃ t, T[0]? = some t := ⟨_, List.getElem?_eq_getElem (by omega)⟩
      obtain ⟨ra, ca, rb, cb, rfl, rfl, RD⟩ := desk_reads hT0 A1
      have HF := hid hF
      have A2 : Hid (All (deskL n D (.slice (some ⟨ra, 0, none⟩) T.length ca) (.slice (some ⟨rb, 0, none⟩) T.length cb) vm T M ++ (blkC wr.heap.size x.cells 42 :: [inC w])) (wr.alloc (.cells x.cells.toArray 42))) := hid ((A1.addBlk x.cells 42).perm List.perm_middle.symm)
      obtain ⟨sa, sc, es, _⟩ := (HG.out _ HB.out).rd
      have ES : Hid (x.cells.toArray = #[.int .i64 x.kd, .int .i64 x.lg, .int .i64 x.op, .int .i64 x.ms, .int .i64 x.e.c, .int .i64 x.e.n, .int .i64 x.e.k, .string x.e.nm, .string x.e.tx, .int .i64 x.e.m, .int .i64 x.e.q, .slice sa x.l.length sc]) := hid (by rw [← es]; rfl)
      have ES2 := hid es
      rw [es] at y11
      clear A1 HI es hF RD hT0
      have l1 : decide ((i : Int) < (acts.length : Int)) = true := decide_eq_true (by omega)
      have l2 : (i : Int) < (acts.length : Int) := by omega
      go_upto_region 11 with fail
      rw [← ES.out]
      clear y0 y1 y2 y3 y4 y5 y6 y7 y8 y9 y10 y11
      generalize wr.alloc (.cells x.cells.toArray 42) = w4 at A2 ⊢
      generalize wr.heap.size = K at A2 hK ⊢
      have GG : Hid (∀ (Y : List Comp) W, All (Y ++ (blkC K x.cells 42 :: [inC w])) W → W.heap[K]? = some (.cells x.cells.toArray 42 (0, 0)) ∧ x.good W) := hid (fun Y W hW => ⟨hW.blk (by simp), HG.out W (hW.into (w0 := w) (by simp))⟩)
      obtain ⟨_, z1, _⟩ := act_cells (GG.out _ _ A2.out).1
      have c0 : w4.cell? ⟨D, 0, none⟩ = some (.slice (some ⟨ra, 0, none⟩) T.length ca) := by
        have e := A2.out.blk (g := D) (vs := [.slice (some ⟨ra, 0, none⟩) T.length ca, .slice (some ⟨rb, 0, none⟩) T.length cb, vm]) (t := 35) (by simp [deskL, hdL])
        rw [cell_at e]; rfl
      obtain ⟨k, hk⟩ : ∃ k, k = amN x.lg T.length := ⟨_, rfl⟩
      have hkN : k < T.length := by rw [hk]; exact amN_lt x.lg hN1
      have C8 : Hid (∀ W : World, Calls Try.prog 8 #[.int .i64 x.lg, .int .i64 (T.length : Int)] W fun e w' => e = .returned (.int .i64 (k : Int)) ∧ Below W.heap.size W w') := hid (fun W => by
        refine (among_is x.lg T.length hN1 (by omega)).mono ?_
        rintro e w' ⟨rfl, rfl⟩
        rw [← hk]
        exact ⟨rfl, Below.refl _ _⟩)
      clear hk
      go_region_held3 (fun W => W.cell? ⟨K, 1, none⟩ = some (.int .i64 x.lg) ∧ W.cell? ⟨D, 0, none⟩ = some (.slice (some ⟨ra, 0, none⟩) T.length ca)) (go_keep)
        (first
          | (go_at_call 8; refine (C8.out _).mono ?_; rintro e w5 ⟨rfl, hb5⟩; have A5 := hid (A2.out.drew.later hb5); obtain ⟨u0, u1, u2, u3, u4, u5, u6, u7, u8, u9, u10, u11⟩ := act_cells (GG.out _ _ A5.out).1; have c0' := cell_under (below2 (bd w4) hb5) (World.block_lt_of_cell? _ _ c0) c0; clear hb5))
      rw [ES2.out] at u11
      have C9 := hid (act_any A5.out HF.out hkN (fun W hW => (GG.out [] W hW).2) (by omega : i ≤ 1099511627776))
      unfold Act0.V at C9
      rw [ES2.out] at C9
      clear C8 z1 c0 c0' A2
      go_wp2_with fail
      refine C9.out.mono ?_
      rintro e w6 ⟨rfl, va', vb', vm', T', M', hN', hF', A6⟩
      have A6 := hid A6
      have HF' := hid hF'
      obtain ⟨t, hT⟩ : ∃ t, Hid (T'[k]? = some t) := ⟨_, hid (List.getElem?_eq_getElem (by omega))⟩
      have hok := hF'.ok t (List.mem_of_getElem? hT.out)
      obtain ⟨ra', ca', rb', cb', rfl, rfl, RD⟩ := desk_reads hT.out A6.out
      obtain ⟨r0, r1, r2, r3⟩ := RD
      have j1 : (k : Int) < (T'.length : Int) := by omega
      have hT4' := hF'.four
      clear C9 A5 u0 u1 u2 u3 u4 u5 u6 u7 u8 u9 u10 u11 hF'
      go_upto_region 14 with fail
      go_quiet (fail)
      have A7 := hid (desk_out hT.out A6.out)
      have hfew := hok.few
      have hle := hok.le
      have htop := hok.top
      obtain ⟨ao', c', hv, hc⟩ := owns7_form A7.out.tail.tail.refRow
      have d1 := A7.out.tail.tail.ref.c1
      have lp1 := World.block_lt_of_cell? _ _ d1
      have hRA := A7.out.tail.tail.ref
      rw [hv] at hRA
      have F10 : Hid (∀ W, Below w6.heap.size w6 W → Calls Try.prog 10 #[.pointer (some ⟨t.g, 0, none⟩)] W fun e w' => e = .returned (.int .i64 (t.b : Int)) ∧ Below W.heap.size W w') := hid (fun W hb => (base_any (A7.out.head.later hb)).mono (fun e w' ⟨h1, h2⟩ => ⟨h1, by rw [h2]; exact Below.refl _ _⟩))
      have F11 := hid (fun W (hb : Below w6.heap.size w6 W) => op_any (A7.out.head.later hb))
      have F12 := hid (fun W (hb : Below w6.heap.size w6 W) => rOp_any (hRA.later hb) htop)
      have F13 := hid (fun W (hb : Below w6.heap.size w6 W) => Room_any (A7.out.head.later hb) (by omega) htop hle (by omega))
      have F14 := hid (fun W (hb : Below w6.heap.size w6 W) => rRoom_any (hRA.later hb) hfew hle)
      have hr : t.b + t.L.length - t.b = t.L.length := by omega
      rw [hr] at F13
      generalize hq : t.b + t.L.length = q at *
      generalize hq2 : n - t.L.length = r at *
      clear hr hc hfew hle htop hok hRA hv A7 r0 r1 r2 r3
      go_upto_region 15 with fail
      go_region_held3 (fun W => W.cell? ⟨t.p, 1, none⟩ = some (.int .i64 (t.b : Int)))
        (first | exact e1.out | exact e3.out | exact e4.out | exact e5.out | go_keep)
        (first
          | (go_at_call 10; refine (F10.out _ (below2 (bdN w6 _) (bd _))).mono ?_; rintro e w7 ⟨rfl, hb7⟩; have b2 := hid (below2 (below2 (bdN w6 _) (bd _)) hb7); have e1 := hid (cell_under b2.out lp1 d1); clear hb7)
          | (go_at_call 11; refine (F11.out _ b2.out).mono ?_; rintro e w3 ⟨rfl, rfl⟩)
          | (go_at_call 12; refine (F12.out _ b2.out).mono ?_; rintro e w8 ⟨rfl, hb4⟩; have b4 := hid (below2 b2.out hb4); have e3 := hid (cell_under b4.out lp1 d1))
          | (go_at_call 13; refine (F13.out _ b4.out).mono ?_; rintro e w9 ⟨rfl, hb5⟩; have b5 := hid (below2 b4.out hb5); have e4 := hid (cell_under b5.out lp1 d1))
          | (go_at_call 14; refine (F14.out _ b5.out).mono ?_; rintro e w10 ⟨rfl, hb6⟩; have b6 := hid (below2 b5.out hb6); have e5 := hid (cell_under b6.out lp1 d1)))
      have HI' : Hid (DeskI n D 1 (i + 1) [inC w] w10) := hid ⟨_, _, _, T', M', by omega, HF'.out, (A6.out.later b6.out).mid⟩
      clear F10 F11 F12 F13 F14 e1 e3 e4 e5 d1 b2 b4 b5 b6 hb4 hb5 hb6 A6
      go_wp2_with fail
      go_roundw
      case rel => exact ⟨i + 1, by omega, by go_num, HI'⟩
      case measure => simp [intOf]; omega
    · have l1 : decide ((i : Int) < (acts.length : Int)) = false := decide_eq_false (by omega)
      have l2 : ¬ ((i : Int) < (acts.length : Int)) := by omega
      obtain ⟨va, vb, vm, T, M, hN1, hF, A1⟩ := HI.out
      have hT4 := hF.four
      obtain ⟨t0, hT0⟩ : ∃ t, T[0]? = some t := ⟨_, List.getElem?_eq_getElem (by omega)⟩
      obtain ⟨ra, ca, rb, cb, rfl, rfl, RD⟩ := desk_reads hT0 A1
      obtain ⟨c0, _, _, _⟩ := RD
      have HF := hid hF
      have A1 := hid A1
      have HLN := hid hlen
      have HMl : Hid (M.length ≤ 1099511627776) := hid (by have := hF.few; omega)
      clear HI hF hT0 HS hlen
      go_wp2_with fail
      clear l1 l2 hlt hi c0
      go_loopw [106] (fun iv wr => ∃ (j : Nat), j ≤ T.length ∧ iv = .int .i64 (j : Int) ∧ Hid (All (deskL n D (.slice (some ⟨ra, 0, none⟩) T.length ca) (.slice (some ⟨rb, 0, none⟩) T.length cb) vm T M ++ [inC w]) wr)) (fun iv _ => T.length - (intOf iv).toNat)
      case atStart => exact ⟨0, by omega, rfl, A1⟩
      case round =>
        clear A1
        obtain ⟨j, hj, rfl, A2⟩ := hrel
        by_cases hlt : j < T.length
        · have l1 : decide ((j : Int) < (T.length : Int)) = true := decide_eq_true (by omega)
          have l2 : (j : Int) < (T.length : Int) := by omega
          obtain ⟨t, hT⟩ : ∃ t, Hid (T[j]? = some t) := ⟨_, hid (List.getElem?_eq_getElem hlt)⟩
          have hok := HF.out.ok t (List.mem_of_getElem? hT.out)
          have CAL := hid (alike_any (desk_out hT.out A2.out).drew hok)
          have RDD : Hid (∀ W, All (deskL n D (.slice (some ⟨ra, 0, none⟩) T.length ca) (.slice (some ⟨rb, 0, none⟩) T.length cb) vm T M ++ [inC w]) W → W.cell? ⟨D, 0, none⟩ = some (.slice (some ⟨ra, 0, none⟩) T.length ca) ∧ W.cell? ⟨D, 1, none⟩ = some (.slice (some ⟨rb, 0, none⟩) T.length cb) ∧ W.cell? ⟨ra, j, none⟩ = some (.pointer (some ⟨t.g, 0, none⟩)) ∧ W.cell? ⟨rb, j, none⟩ = some (.pointer (some ⟨t.p, 0, none⟩))) := hid (fun W hW => by
            obtain ⟨a1, a2, a3, a4⟩ := desk_rd hT.out hW
            exact ⟨a1, a2, a3, a4⟩)
          obtain ⟨r0, r1, r2, r3⟩ := RDD.out _ A2.out
          clear hok A2
          go_upto_region 21 with fail
          go_region_held3 (fun W => W.cell? ⟨D, 0, none⟩ = some (.slice (some ⟨ra, 0, none⟩) T.length ca) ∧ W.cell? ⟨D, 1, none⟩ = some (.slice (some ⟨rb, 0, none⟩) T.length cb) ∧ W.cell? ⟨ra, j, none⟩ = some (.pointer (some ⟨t.g, 0, none⟩)) ∧ W.cell? ⟨rb, j, none⟩ = some (.pointer (some ⟨t.p, 0, none⟩))) (go_keep)
            (first
              | (go_at_call 15; refine CAL.out.mono ?_; rintro e w5 ⟨rfl, A5⟩; have A6 := hid (desk_back hT.out A5); obtain ⟨s0, s1, s2, s3⟩ := RDD.out _ A6.out; clear A5))
          clear s0 s1 s2 s3 r0 r1 r2 r3 CAL RDD
          go_wp2_with fail
          go_roundw
          case rel => exact ⟨j + 1, by omega, by go_num, A6⟩
          case measure => simp [intOf]; omega
        · have l1 : decide ((j : Int) < (T.length : Int)) = false := decide_eq_false (by omega)
          have l2 : ¬ ((j : Int) < (T.length : Int)) := by omega
          have hM : wr.ownsRow 0 69 8 vm M.length (flatM M) := (A2.out.mem (c := markC vm M) (by simp [deskL, hdL])).2.1
          have hE : ∀ x ∈ M, wr.ownsRow 0 39 7 x.v x.m (flatE (List.replicate x.m (mark x.k))) := fun x hx => by
            have := (A2.out.mem (c := Mk.comp x) (by simp only [deskL, hdL, List.mem_append, List.mem_map]; exact .inl (.inl (.inr ⟨x, hx, rfl⟩)))).2.1
            have h2 : wr.ownsRow 0 39 7 x.v (List.replicate x.m (mark x.k)).length (flatE (List.replicate x.m (mark x.k))) := this
            rwa [List.length_replicate] at h2
          obtain ⟨am, cm, rfl⟩ := owns_form hM
          have d2 : wr.cell? ⟨D, 2, none⟩ = some (.slice am M.length cm) := by
            have e := A2.out.blk (g := D) (vs := [.slice (some ⟨ra, 0, none⟩) T.length ca, .slice (some ⟨rb, 0, none⟩) T.length cb, .slice am M.length cm]) (t := 35) (by simp [deskL, hdL])
            rw [cell_at e]; rfl
          have CS := hid (stand_any hM hE HMl.out (fun x hx => by have := HF.out.short x hx; omega))
          have HB := hid (A2.out.into (w0 := w) (by simp))
          clear hM hE A2
          go_wp2_with fail
          refine CS.out.mono ?_
          rintro e w5 ⟨rfl, hb5⟩
          clear CS d2
          go_wp2
          go_ret
          exact ⟨rfl, below2 HB.out hb5⟩
end Go.Proofs.Ythjoppgomopkfaa

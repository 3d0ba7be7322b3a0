import Derived.Test.YtpfpamkbahgkpaaTrnP
import Derived.Test.YtpfpamkbahgkpaaCounts
namespace Go.Proofs.Ytpfpamkbahgkpaa
open Go.RowKit
set_option linter.unusedVariables false

theorem Try.info54 : (Try.prog.info? 54).map (fun i => (i.zero, i.size, i.bytes)) = some (some (.agg #[.slice none 0 0]), 1, 24) := by kernel_rfl
/-- One source more. -/
theorem app_src {W : World} {v x : Value} {us : List Value} {cs : List Comp} (A : All (ownC 54 v us :: cs) W) (hx : x.oneCell' = true) (hl : (us.length + 1) * 24 ≤ 140737488355328) :
    ∃ ao c w', (Builtin.append_ #[51, 51] 51 #[v, .slice (some ⟨W.heap.size, 0, none⟩) 1 1]).run Try.prog (W.alloc (.cells #[x] 54)) = .ok (.slice ao (us.length + 1) c) w' ∧ All (ownC 54 (.slice ao (us.length + 1) c) (us ++ [x]) :: cs) w' := by
  obtain ⟨i1, hi1, hz0, hz1, hz2⟩ := info_parts Try.info54
  exact app1 (H := W.heap.size) (x := x) Try.underlying51 hi1 hz0 hz1 hz2 rfl (A.alloc (.cells #[x] 54)) (by rw [cell_at (heap_alloc_new W _)]; rfl) hx (by unfold maxLen; omega) hl

/-- What the loop keeps. -/
structure TrnI (w wr : World) (b i : Nat) (fo : Option Addr) (fl fc : Nat) : Prop where
  ex : ∃ (L : List (Value × List UInt8)) (P : List (Value × List UInt8)) (B : Bg), L.length = fl ∧ Trn B.ab (L.map Prod.snd) ∧ B.ab.Ok i ∧ B.In P ∧ (∀ e ∈ L, e ∈ P ∧ e.2.length ≤ 140737488351232) ∧ B.b = b ∧ All (poolC P :: (B.L ++ (ownC 54 (.slice fo fl fc) (L.map Prod.fst) :: [inC w]))) wr
/-- What the inner loop keeps: the packets that were told, too. -/
structure TrnJ (w wr : World) (b i : Nat) (fo : Option Addr) (fl fc H m : Nat) (qs : List Pk) : Prop where
  ex : ∃ (L : List (Value × List UInt8)) (P : List (Value × List UInt8)) (B : Bg), L.length = fl ∧ Trn B.ab (L.map Prod.snd) ∧ B.ab.Ok i ∧ B.In P ∧ (∀ e ∈ L, e ∈ P ∧ e.2.length ≤ 140737488351232) ∧ B.b = b ∧ qs.map Pk.ap = B.ab.ps ∧ qs.length = m ∧ All (pkC (.slice (some ⟨H, 0, none⟩) m m) qs :: (datL qs ++ (poolC P :: (B.L ++ (ownC 54 (.slice fo fl fc) (L.map Prod.fst) :: [inC w]))))) wr
theorem TrnJ.later {w wr wx : World} {b i fl fc H m : Nat} {fo : Option Addr} {qs : List Pk} (h : TrnJ w wr b i fo fl fc H m qs) (hb : Below wr.heap.size wr wx) : TrnJ w wx b i fo fl fc H m qs := by
  obtain ⟨L, P, B, h1, h2, h3, h4, h5, h6, h7, h8, h9⟩ := h.ex
  exact ⟨L, P, B, h1, h2, h3, h4, h5, h6, h7, h8, h9.later hb⟩
theorem All.drop {xs cs : List Comp} {w : World} (h : All (xs ++ cs) w) : All cs w := by
  induction xs with
  | nil => exact h
  | cons x xs ih => exact ih h.tail
theorem TrnJ.toI {w wr : World} {b i fl fc H m : Nat} {fo : Option Addr} {qs : List Pk} (h : TrnJ w wr b i fo fl fc H m qs) : TrnI w wr b i fo fl fc := by
  obtain ⟨L, P, B, h1, h2, h3, h4, h5, h6, h7, h8, h9⟩ := h.ex
  exact ⟨L, P, B, h1, h2, h3, h4, h5, h6, h9.tail.drop⟩
theorem TrnJ.at {w wr : World} {b i fl fc H m : Nat} {fo : Option Addr} {qs : List Pk} (h : TrnJ w wr b i fo fl fc H m qs) {j : Nat} (hj : j < m) : ∃ (q : Pk) (N : Nat) (vo : Option Addr) (l : List UInt8) (vc : Nat), q.n = (N : Int) + 1 ∧ N < fl ∧ l.length ≤ 140737488351232 ∧ Near q.bs l q.u ∧ wr.cell? ⟨H, j * 6, none⟩ = some (.int .i64 q.n) ∧ wr.cell? ⟨H, j * 6 + 1, none⟩ = some (.int .i64 q.f) ∧ wr.cell? ⟨H, j * 6 + 2, none⟩ = some (.int .i64 q.t) ∧ wr.cell? ⟨H, j * 6 + 3, none⟩ = some (.int .i64 q.a) ∧ wr.cell? ⟨H, j * 6 + 4, none⟩ = some (.int .i64 q.u) ∧ wr.cell? ⟨H, j * 6 + 5, none⟩ = some (.slice q.ao q.bs.length q.c) ∧ ∃ g2, fo = some ⟨g2, 0, none⟩ ∧ wr.cell? ⟨g2, N, none⟩ = some (.slice vo l.length vc) ∧ Reads wr q.D q.bs ∧ Reads wr (.slice vo l.length vc) l ∧ l.length ≤ 140737488355328 ∧ H < wr.heap.size ∧ g2 < wr.heap.size := by
  obtain ⟨L, P, B, h1, h2, h3, h4, h5, h6, h7, h8, A⟩ := h.ex
  have hjq : j < qs.length := by rw [h8]; exact hj
  obtain ⟨q, hq⟩ : ∃ q, qs[j]? = some q := ⟨_, List.getElem?_eq_getElem hjq⟩
  have hqm := List.mem_of_getElem? hq
  have hpm : q.ap ∈ B.ab.ps := by rw [← h7]; exact List.mem_map_of_mem hqm
  obtain ⟨N, l, e1, e2, e3⟩ := h2.near _ hpm
  simp only [List.getElem?_map, Option.map_eq_some_iff] at e2
  obtain ⟨⟨v, l'⟩, eL, rfl⟩ := e2
  have hLm := List.mem_of_getElem? eL
  have hrd : Reads wr v l' := A.poolReads (P := P) (by simp) (h5 _ hLm).1
  obtain ⟨vo, vc, rfl⟩ := hrd.form
  obtain ⟨g1, c1, ev, hg1, hrg, -⟩ := row_at (show wr.ownsRow 0 49 6 (.slice (some ⟨H, 0, none⟩) m m) qs.length (flatP qs) from A.1.2.1) hq
  simp only [Value.slice.injEq, Option.some.injEq, Addr.mk.injEq, and_true] at ev
  obtain ⟨rfl, -, -⟩ := ev
  obtain ⟨s1, s2, s3, s4, s5, s6⟩ := pkAt_of hrg
  have R2 : wr.ownsRow 0 54 1 (.slice fo fl fc) (L.map Prod.fst).length (L.map Prod.fst) := (A.mem (c := ownC 54 (.slice fo fl fc) (L.map Prod.fst)) (by simp)).2.1
  obtain ⟨g2, eb, k1, -⟩ := owns_at R2 (k := N) (u := .slice vo l'.length vc) (by simp [eL])
  have hrq : Reads wr q.D q.bs := A.byReads (by simp only [List.mem_cons, List.mem_append]; exact Or.inr (Or.inl (List.mem_map.2 ⟨q, hqm, rfl⟩)))
  exact ⟨q, N, vo, l', vc, e1, by rw [← h1]; exact (List.getElem?_eq_some_iff.1 eL).1, (h5 _ hLm).2, e3, s1, s2, s3, s4, s5, s6, g2, eb, k1, hrq, hrd, by have := (h5 _ hLm).2; simp only at this; omega, hg1, by have := World.block_lt_of_cell? wr _ k1; simpa using this⟩

theorem perm_mid (X Y Z : List Comp) : (X ++ (Y ++ Z)).Perm (Y ++ (X ++ Z)) := List.perm_append_comm_assoc X Y Z

set_option maxHeartbeats 6400000 in
set_option maxRecDepth 1000000 in
theorem turned_loop {xs : List OpV} {s : Value} {r : Int} {w : World} (hs : OpsAt w s xs) (hl : xs.length * 64 ≤ 140737488351232) (h1 : 1 ≤ r) (h2 : r ≤ 1024) : Calls Try.prog 5 #[.int .i64 r, s] w fun e w' => e = .returned (.bool true) ∧ Below w.heap.size w w' := by
  have HS := hid hs
  obtain ⟨so, sc, hsf, _⟩ := hs
  subst hsf
  have C0 := hid (shown_any (All.came w))
  obtain ⟨n, hn⟩ : ∃ n, Hid (n = xs.length) := ⟨_, hid rfl⟩
  rw [← hn.out] at HS hl ⊢
  have h1' : ¬ r < 1 := by omega
  have h2' : ¬ 1024 < r := by omega
  go_enter Try.func5, Try.ntmps5
  go_wp2_with fail
  refine C0.out.mono ?_
  rintro e w0 ⟨rfl, A0⟩
  have C1 := hid (New_ok (r := r) A0 h1 h2)
  clear C0 A0
  go_wp2_with fail
  refine C1.out.mono ?_
  rintro e w1 ⟨b, rfl, A1⟩
  have I0 : Hid (TrnI w (w1.alloc (.cells #[] 54)) b 0 (some ⟨w1.heap.size, 0, none⟩) 0 0) := hid ⟨[], [], Bg.mk b r 0 (.slice none 0 0) [], rfl, Trn.new r, AB.Ok.new h1 h2, fun p hp => (by cases hp), fun e he => (by cases he), rfl, by
    have A2 : All (ownC 54 (.slice (some ⟨w1.heap.size, 0, none⟩) 0 0) [] :: (poolC [] :: ((Bg.mk b r 0 (.slice none 0 0) []).L ++ [inC w]))) (w1.alloc (.cells #[] 54)) := A1.pool0.addOwn (ba w1 _) (World.ownsRow_made (base := w1.heap.size) (e := 54) (size := 1) w1 #[] 0 (Nat.le_refl _) (by unfold maxLen; omega) rfl)
    exact A2.perm (perm_in _ _ _ _ _)⟩
  clear C1 A1
  go_wp2
  go_loopw [7, 8] (fun fv iv wr => ∃ (i : Nat) (fo : Option Addr) (fl fc : Nat), i ≤ n ∧ iv = .int .i64 (i : Int) ∧ fv = .slice fo fl fc ∧ fl ≤ i ∧ Hid (TrnI w wr b i fo fl fc)) (fun _ iv _ => n - (intOf iv).toNat)
  case atStart => exact ⟨0, _, 0, 0, by omega, rfl, rfl, by omega, I0⟩
  case round =>
    clear I0
    obtain ⟨i, fo, fl, fc, hi, rfl, rfl, hfl, I⟩ := hrel
    by_cases hlt : i < n
    · obtain ⟨L, P, B, hLl, hT, hok, hin, hLP, hb, A⟩ := I.out.ex
      have hx : ∃ x, xs[i]? = some x := ⟨_, List.getElem?_eq_getElem (by rw [← hn.out]; exact hlt)⟩
      obtain ⟨x, hx⟩ := hx
      have hBl := A.into (w0 := w) (by simp)
      obtain ⟨g, go, e1, hg, ⟨s1, s2, s3, s4, s5, s6⟩, hrd, hdl⟩ := (HS.out.later hBl).at hx
      subst e1
      have hK : wr.heap.size ≠ g := by omega
      have A1 : All (poolC P :: (B.L ++ (blkC wr.heap.size x.cells 33 :: ownC 54 (.slice fo fl fc) (L.map Prod.fst) :: [inC w]))) (wr.alloc (.cells x.cells.toArray 33)) := (A.addBlk x.cells 33).perm (perm_in _ _ _ _ _)
      have hm := hok.small
      rw [B.ab_len] at hm
      have C := hid (List_any A1 hin hm)
      obtain ⟨m, hmm⟩ : ∃ m, Hid (m = B.ps.length) := ⟨_, hid rfl⟩
      rw [show B.V = .pointer (some ⟨b, 0, none⟩) by unfold Bg.V; rw [hb], ← hmm.out] at C
      have hm' : m ≤ 1024 := by rw [hmm.out]; exact hm
      have eW : Hid (wr.alloc (.cells #[.bool x.o.s, .int .i64 x.o.k, .int .i64 x.o.a, .int .i64 x.o.b, .int .i64 x.o.y, .slice x.ao x.o.d.length x.c] 33) = wr.alloc (.cells x.cells.toArray 33)) := hid rfl
      have RX := hid (fun wz (hz : Below w.heap.size w wz) => ((HS.out.later hz).at hx).choose_spec.choose_spec.2.2.2.1)
      have HQ := hid (And.intro hLl (And.intro hT (And.intro hok (And.intro hin (And.intro hLP hb)))))
      have hii : (i : Int) < (n : Int) := by omega
      clear A A1 hLl hT hok hin hLP hb I hBl hx hrd hm
      go_wp2_with fail
      rw [eW.out]
      refine C.out.mono ?_
      rintro e w2 ⟨H, qs, rfl, hqs, -, A2⟩
      have A2 : All (poolC P :: (B.L ++ (pkC (.slice (some ⟨H, 0, none⟩) m m) qs :: (datL qs ++ (blkC wr.heap.size x.cells 33 :: ownC 54 (.slice fo fl fc) (L.map Prod.fst) :: [inC w]))))) w2 := A2.perm (by
        have := perm_mid (pkC (.slice (some ⟨H, 0, none⟩) m m) qs :: datL qs) (poolC P :: B.L) (blkC wr.heap.size x.cells 33 :: ownC 54 (.slice fo fl fc) (L.map Prod.fst) :: [inC w])
        simpa using this)
      have C2 := hid (one_any (o := x.o) (ao := x.ao) (c := x.c) A2 HQ.out.2.2.2.1 HQ.out.2.2.1 (by omega) (RX.out _ (A2.into (by simp))) (by omega))
      rw [show B.V = .pointer (some ⟨b, 0, none⟩) by unfold Bg.V; rw [HQ.out.2.2.2.2.2]] at C2
      obtain ⟨E, hE⟩ : ∃ E, Hid (E = B.ab.oneE x.o) := ⟨_, hid rfl⟩
      rw [← hE.out] at C2
      clear s1 s2 s3 s4 s5 s6 hg C eW
      obtain ⟨s1, s2, s3, s4, s5, s6⟩ : opAt w2 wr.heap.size 0 x := opAt_of (fun j v hv => by
        rw [cell_at (A2.mem (c := blkC wr.heap.size x.cells 33) (by simp)).2.1, List.getElem?_toArray, Nat.zero_add]
        exact hv)
      simp only [Nat.zero_add] at s1 s2 s3 s4 s5 s6
      have hql : qs.length = m := by have := congrArg List.length hqs; rw [hmm.out]; simpa using this
      have HQS := hid (And.intro hqs hql)
      clear A2 hqs hql
      go_wp2_with fail
      refine C2.out.mono ?_
      rintro e w3 ⟨rfl, P2, B2, hb2, hab2, hin2, hPP, A3⟩
      have hb2 : B2.b = b := hb2.trans HQ.out.2.2.2.2.2
      have hok2 : B2.ab.Ok (i + 1) := by rw [hab2]; exact HQ.out.2.2.1.one x.o
      have hm2 := hok2.small
      rw [B2.ab_len] at hm2
      have C3 := hid (List_any A3 hin2 hm2)
      obtain ⟨m2, hmm2⟩ : ∃ m2, Hid (m2 = B2.ps.length) := ⟨_, hid rfl⟩
      rw [show B2.V = .pointer (some ⟨b, 0, none⟩) by unfold Bg.V; rw [hb2], ← hmm2.out] at C3
      have hm2' : m2 ≤ 1024 := by rw [hmm2.out]; exact hm2
      have H2Q := hid (And.intro hb2 (And.intro hab2 (And.intro hin2 (And.intro hok2 hPP))))
      clear s1 s2 s3 s4 s5 s6 C2 A3 hb2 hab2 hin2 hok2 hPP hm2
      go_wp2_with fail
      refine C3.out.mono ?_
      rintro e w4 ⟨H2, qs2, rfl, hqs2, -, A4⟩
      obtain ⟨s1, s2, s3, s4, s5, s6⟩ : opAt w4 wr.heap.size 0 x := opAt_of (fun j v hv => by
        rw [cell_at (A4.mem (c := blkC wr.heap.size x.cells 33) (by simp)).2.1, List.getElem?_toArray, Nat.zero_add]
        exact hv)
      simp only [Nat.zero_add] at s1 s2 s3 s4 s5 s6
      have hql2 : qs2.length = m2 := by have := congrArg List.length hqs2; rw [hmm2.out]; simpa using this
      have hq2 : qs2.map Pk.ap = B2.ab.ps := hqs2
      have HQ2 := hid (And.intro hq2 hql2)
      have A4 := hid A4
      clear C3 hqs2 hq2 hql2
      have hKl : wr.heap.size < w4.heap.size := (A4.out.mem (c := blkC wr.heap.size x.cells 33) (by simp)).2.2 _ (by simp [blkC])
      have AK : Hid (All ((pkC (.slice (some ⟨H2, 0, none⟩) m2 m2) qs2 :: (datL qs2 ++ (poolC P2 :: B2.L))) ++ (blkC wr.heap.size x.cells 33 :: ownC 54 (.slice fo fl fc) (L.map Prod.fst) :: [inC w])) w4) := hid (by
        have := A4.out.perm (by
          have := perm_mid (pkC (.slice (some ⟨H2, 0, none⟩) m2 m2) qs2 :: (datL qs2 ++ (poolC P2 :: B2.L))) (pkC (.slice (some ⟨H, 0, none⟩) m m) qs :: datL qs) (blkC wr.heap.size x.cells 33 :: ownC 54 (.slice fo fl fc) (L.map Prod.fst) :: [inC w])
          simpa using this)
        exact All.drop (xs := pkC (.slice (some ⟨H, 0, none⟩) m m) qs :: datL qs) (by simpa using this))
      have AJ : Hid (All (pkC (.slice (some ⟨H2, 0, none⟩) m2 m2) qs2 :: (datL qs2 ++ (poolC P2 :: (B2.L ++ (ownC 54 (.slice fo fl fc) (L.map Prod.fst) :: [inC w]))))) w4) := hid (by
        have := (AK.out.perm List.perm_middle).tail
        simpa using this)
      generalize hk : x.o.k = k at *
      have HK := hid hk
      clear hk
      by_cases hE0 : E = 0
      · subst hE0
        by_cases hk0 : k = 0
        · have hT2 := HQ.out.2.1.one_add (x := x.o) (by rw [HK.out]; exact hk0) hE.out.symm
          have CP := hid (lcopied_any (w := w4) (RX.out _ (A4.out.into (by simp))) (by omega))
          obtain ⟨dn, hdn⟩ : ∃ dn, Hid (dn = x.o.d.length) := ⟨_, hid rfl⟩
          rw [← hdn.out] at CP s6
          subst hk0
          go_wp2_with fail
          refine CP.out.mono ?_
          rintro e w5 ⟨v, rfl, hov, hb5⟩
          have A5 : All (ownC 54 (.slice fo fl fc) (L.map Prod.fst) :: byC v x.o.d :: poolC P2 :: blkC wr.heap.size x.cells 33 :: ((pkC (.slice (some ⟨H2, 0, none⟩) m2 m2) qs2 :: datL qs2) ++ (B2.L ++ [inC w]))) w5 := by
            have A5 : All (byC v x.o.d :: _) w5 := AK.out.addOwn hb5 (by rw [cellsB_length, ← hdn.out]; exact hov)
            exact A5.perm (by
              have := perm_by 7 [[byC v x.o.d], pkC (.slice (some ⟨H2, 0, none⟩) m2 m2) qs2 :: datL qs2, [poolC P2], B2.L, [blkC wr.heap.size x.cells 33], [ownC 54 (.slice fo fl fc) (L.map Prod.fst)], [inC w]] [5, 0, 2, 4, 1, 3, 6] rfl (by decide)
              simpa [List.getD] using this)
          obtain ⟨vo, vc, hvf⟩ := owns_form hov
          subst hvf
          obtain ⟨fo2, fc2, w6, hr, A6⟩ := app_src (x := .slice vo dn vc) A5 rfl (by rw [List.length_map, HQ.out.1]; omega)
          rw [List.length_map, HQ.out.1] at hr A6
          have z2 : w6.cell? ⟨wr.heap.size, 1, none⟩ = some (.int .i64 0) := by
            rw [cell_at (A6.mem (c := blkC wr.heap.size x.cells 33) (by simp)).2.1]; simp [OpV.cells, HK.out]
          obtain ⟨fl2, hfl2⟩ : ∃ fl2, Hid (fl2 = fl + 1) := ⟨_, hid rfl⟩
          have hfl2' : fl2 ≤ i + 1 := by rw [hfl2.out]; omega
          rw [← hfl2.out] at hr A6
          have J : Hid (TrnJ w w6 b (i + 1) fo2 fl2 fc2 H2 m2 qs2) := hid ⟨L ++ [(.slice vo dn vc, x.o.d)], (.slice vo dn vc, x.o.d) :: P2, B2, by rw [List.length_append, HQ.out.1, hfl2.out]; rfl, by rw [H2Q.out.2.1, List.map_append]; exact hT2, H2Q.out.2.2.2.1, H2Q.out.2.2.1.more (fun e he => List.mem_cons_of_mem _ he), fun e he => by
              rcases List.mem_append.1 he with he | he
              · exact ⟨List.mem_cons_of_mem _ (H2Q.out.2.2.2.2 _ (HQ.out.2.2.2.2.1 e he).1), (HQ.out.2.2.2.2.1 e he).2⟩
              · obtain rfl := List.mem_singleton.1 he
                exact ⟨List.mem_cons_self, hdl⟩, H2Q.out.1, HQ2.out.1, HQ2.out.2, by
              have A7 := (A6.perm (perm12 _ _ _ _)).poolAdd
              rw [List.map_append]
              have A8 := (A7.perm (by
                have := perm_by 6 [[poolC ((.slice vo dn vc, x.o.d) :: P2)], [ownC 54 (.slice fo2 fl2 fc2) (L.map Prod.fst ++ [.slice vo dn vc])], [blkC wr.heap.size x.cells 33], pkC (.slice (some ⟨H2, 0, none⟩) m2 m2) qs2 :: datL qs2, B2.L, [inC w]] [2, 3, 0, 4, 1, 5] rfl (by decide)
                simpa [List.getD] using this))
              exact A8.tail⟩
          have R := hid hr
          clear A5 A6 hr hov hb5 hT2 A4 AK AJ CP
          go_wp2_with (at_builtin; refine wpList_append_run rfl _ _ 51 rfl _ _ _ _ rfl rfl R.out ?_)
          go_loopw [12] (fun jv wz => ∃ (j : Nat), j ≤ m2 ∧ jv = .int .i64 (j : Int) ∧ Hid (TrnJ w wz b (i + 1) fo2 fl2 fc2 H2 m2 qs2)) (fun jv _ => m2 - (intOf jv).toNat)
          case atStart => exact ⟨0, by omega, rfl, J⟩
          case round =>
            clear J
            obtain ⟨j, hj, rfl, J⟩ := hrel
            by_cases hjm : j < m2
            · obtain ⟨q, N, vo, l, vc, hqn, hNl, hll, hnr, s1, s2, s3, s4, s5, s6, g2, eg2, hc2, rq, rl, hlen, hHl, hgl⟩ := J.out.at hjm
              subst eg2
              have T := hid (nearly_true (p := q) (w := wr.drew) rq.drew rl.drew hlen hnr)
              have d1 : ¬ (N : Int) + 1 < 1 := by omega
              have d2 : ¬ (fl2 : Int) < (N : Int) + 1 := by omega
              have d3 : decide ((fl2 : Int) < (N : Int) + 1) = false := decide_eq_false d2
              have d4 : ¬ fl2 ≤ N := by omega
              have e8 : (N : Int) + 1 - 1 = (N : Int) := by omega
              have e9 : IntKind.i64.wrap ((N : Int) + 1 - 1) = (N : Int) := by rw [IntKind.wrap_i64]; omega
              have hN0 : (0 : Int) ≤ (N : Int) := by omega
              have e10 : IntKind.i64.wrap (N : Int) = (N : Int) := by rw [IntKind.wrap_i64]; omega
              have hN1 : (0 : Int) ≤ (N : Int) + 1 - 1 := by omega
              have hN2 : (N : Int) + 1 - 1 < (fl2 : Int) := by omega
              have d5 : decide (fl2 ≤ N) = false := decide_eq_false d4
              have d6 : decide ((fl2 : Int) ≤ (N : Int)) = false := decide_eq_false (by omega)
              have d7 : decide (fl2 < N + 1) = false := decide_eq_false (by omega)
              have hjm' : (j : Int) < (m2 : Int) := by omega
              have hNb' : (N : Int) < (fl2 : Int) := by omega
              rw [hqn] at s1
              have HQN := hid hqn
              have T : Hid (Calls Try.prog 23 #[.agg #[.int .i64 ((N : Int) + 1), .int .i64 q.f, .int .i64 q.t, .int .i64 q.a, .int .i64 q.u, .slice q.ao q.bs.length q.c], .slice vo l.length vc] wr.drew (fun e w' => e = .returned (.bool true) ∧ Below wr.drew.heap.size wr.drew w')) := by
                have h2 := T.out
                have e4 : q.V = .agg #[.int .i64 ((N : Int) + 1), .int .i64 q.f, .int .i64 q.t, .int .i64 q.a, .int .i64 q.u, .slice q.ao q.bs.length q.c] := by unfold Pk.V; rw [HQN.out]
                rw [e4] at h2
                exact h2
              clear rq rl hnr hqn hlen
              have SV : Hid (∀ W, Below wr.drew.heap.size wr.drew W → W.cell? ⟨H2, j * 6, none⟩ = some (.int .i64 ((N : Int) + 1)) ∧ W.cell? ⟨H2, j * 6 + 1, none⟩ = some (.int .i64 q.f) ∧ W.cell? ⟨H2, j * 6 + 2, none⟩ = some (.int .i64 q.t) ∧ W.cell? ⟨H2, j * 6 + 3, none⟩ = some (.int .i64 q.a) ∧ W.cell? ⟨H2, j * 6 + 4, none⟩ = some (.int .i64 q.u) ∧ W.cell? ⟨H2, j * 6 + 5, none⟩ = some (.slice q.ao q.bs.length q.c) ∧ W.cell? ⟨g2, N, none⟩ = some (.slice vo l.length vc)) := hid (fun W hb => ⟨cell_under hb hHl s1, cell_under hb hHl s2, cell_under hb hHl s3, cell_under hb hHl s4, cell_under hb hHl s5, cell_under hb hHl s6, cell_under hb hgl hc2⟩)
              have q0 := hid (SV.out wr.drew (Below.refl _ _))
              go_wp2
              go_region_held3 (fun W => W.cell? ⟨H2, j * 6, none⟩ = some (.int .i64 ((N : Int) + 1)) ∧ W.cell? ⟨H2, j * 6 + 1, none⟩ = some (.int .i64 q.f) ∧ W.cell? ⟨H2, j * 6 + 2, none⟩ = some (.int .i64 q.t) ∧ W.cell? ⟨H2, j * 6 + 3, none⟩ = some (.int .i64 q.a) ∧ W.cell? ⟨H2, j * 6 + 4, none⟩ = some (.int .i64 q.u) ∧ W.cell? ⟨H2, j * 6 + 5, none⟩ = some (.slice q.ao q.bs.length q.c) ∧ W.cell? ⟨g2, N, none⟩ = some (.slice vo l.length vc)) (first | exact q0.out | exact q1.out | go_keep)
                (first
                  | (go_at_call 23; refine T.out.mono ?_; rintro e w9 ⟨rfl, hb9⟩; have J2 := hid ((J.out.later (bd wr)).later hb9); have q1 := hid (SV.out w9 hb9); clear hb9))
              clear q0 q1 SV s1 s2 s3 s4 s5 s6 hc2 T
              go_wp2
              go_roundw
              case rel => exact ⟨j + 1, by omega, by go_num, J2⟩
              case measure => simp [intOf]; omega
            · go_wp2
              go_roundw
              case rel => exact ⟨i + 1, fo2, fl2, fc2, by omega, by go_num, rfl, by omega, hid J.out.toI⟩
              case measure => simp [intOf]; omega

        · by_cases hk2 : k = 2
          · obtain ⟨a, N, p, l, ea, hpa, hpn, hFl, hT2⟩ := HQ.out.2.1.one_dup (x := x.o) (by rw [HK.out]; exact hk2) hE.out.symm
            simp only [List.getElem?_map, Option.map_eq_some_iff] at hFl
            obtain ⟨⟨v, l'⟩, eL, rfl⟩ := hFl
            have hLm := List.mem_of_getElem? eL
            have hNl : N < fl := by rw [← HQ.out.1]; exact (List.getElem?_eq_some_iff.1 eL).1
            have ham : a < m := by
              have := (List.getElem?_eq_some_iff.1 hpa).1
              rw [B.ab_len, ← hmm.out] at this
              exact this
            have hqa : ∃ q, qs[a]? = some q ∧ q.ap = p := by
              have h3 := hpa
              have h4 : B.ab.ps = qs.map Pk.ap := HQS.out.1.symm
              rw [h4, List.getElem?_map, Option.map_eq_some_iff] at h3
              exact h3
            obtain ⟨q, hq, hqp⟩ := hqa
            have hqn : q.n = (N : Int) + 1 := by rw [← hpn, ← hqp]; rfl
            obtain ⟨g1, c1, ev, hg1, hrg, -⟩ := row_at (show w4.ownsRow 0 49 6 (.slice (some ⟨H, 0, none⟩) m m) qs.length (flatP qs) from (A4.out.mem (c := pkC (.slice (some ⟨H, 0, none⟩) m m) qs) (by simp)).2.1) hq
            simp only [Value.slice.injEq, Option.some.injEq, Addr.mk.injEq, and_true] at ev
            obtain ⟨rfl, -, -⟩ := ev
            obtain ⟨y1, -, -, -, -, -⟩ := pkAt_of hrg
            rw [hqn] at y1
            have R2 : w4.ownsRow 0 54 1 (.slice fo fl fc) (L.map Prod.fst).length (L.map Prod.fst) := (AK.out.mem (c := ownC 54 (.slice fo fl fc) (L.map Prod.fst)) (by simp)).2.1
            obtain ⟨g2, eb, k1, -⟩ := owns_at R2 (k := N) (u := v) (by simp [eL])
            subst eb
            have hrd : Reads w4 v l' := A4.out.poolReads (P := P2) (by simp) (H2Q.out.2.2.2.2 _ (HQ.out.2.2.2.2.1 _ hLm).1)
            obtain ⟨vo, vc, hvf⟩ := hrd.form
            subst hvf
            have A5 : All (ownC 54 (.slice (some ⟨g2, 0, none⟩) fl fc) (L.map Prod.fst) :: blkC wr.heap.size x.cells 33 :: ((pkC (.slice (some ⟨H2, 0, none⟩) m2 m2) qs2 :: datL qs2) ++ (poolC P2 :: (B2.L ++ [inC w])))) w4 := AK.out.perm (by
              have := perm_by 5 [pkC (.slice (some ⟨H2, 0, none⟩) m2 m2) qs2 :: datL qs2, poolC P2 :: B2.L, [blkC wr.heap.size x.cells 33], [ownC 54 (.slice (some ⟨g2, 0, none⟩) fl fc) (L.map Prod.fst)], [inC w]] [3, 2, 0, 1, 4] rfl (by decide)
              simpa [List.getD] using this)
            obtain ⟨fo2, fc2, w6, hr, A6⟩ := app_src (x := .slice vo l'.length vc) A5 rfl (by rw [List.length_map, HQ.out.1]; omega)
            rw [List.length_map, HQ.out.1] at hr A6
            obtain ⟨fl2, hfl2⟩ : ∃ fl2, Hid (fl2 = fl + 1) := ⟨_, hid rfl⟩
            have hfl2' : fl2 ≤ i + 1 := by rw [hfl2.out]; omega
            rw [← hfl2.out] at hr A6
            have J : Hid (TrnJ w w6 b (i + 1) fo2 fl2 fc2 H2 m2 qs2) := hid ⟨L ++ [(.slice vo l'.length vc, l')], P2, B2, by rw [List.length_append, HQ.out.1, hfl2.out]; rfl, by rw [H2Q.out.2.1, List.map_append]; exact hT2, H2Q.out.2.2.2.1, H2Q.out.2.2.1, fun e he => by
                rcases List.mem_append.1 he with he | he
                · exact ⟨H2Q.out.2.2.2.2 _ (HQ.out.2.2.2.2.1 e he).1, (HQ.out.2.2.2.2.1 e he).2⟩
                · obtain rfl := List.mem_singleton.1 he
                  exact ⟨H2Q.out.2.2.2.2 _ (HQ.out.2.2.2.2.1 _ hLm).1, (HQ.out.2.2.2.2.1 _ hLm).2⟩, H2Q.out.1, HQ2.out.1, HQ2.out.2, by
                rw [List.map_append]
                have A8 := (A6.perm (by
                  have := perm_by 5 [[ownC 54 (.slice fo2 fl2 fc2) (L.map Prod.fst ++ [.slice vo l'.length vc])], [blkC wr.heap.size x.cells 33], pkC (.slice (some ⟨H2, 0, none⟩) m2 m2) qs2 :: datL qs2, poolC P2 :: B2.L, [inC w]] [1, 2, 3, 0, 4] rfl (by decide)
                  simpa [List.getD] using this))
                exact A8.tail⟩
            have R := hid hr
            rw [ea] at s3
            have d1 : ¬ (N : Int) + 1 < 1 := by omega
            have d2 : ¬ (fl : Int) < (N : Int) + 1 := by omega
            have d3 : ¬ (a : Int) < 0 := by omega
            have d4 : ¬ (m : Int) ≤ (a : Int) := by omega
            have hNl' : (N : Int) < (fl : Int) := by omega
            have ham' : (a : Int) < (m : Int) := by omega
            clear A5 A6 hr hT2 A4 AK AJ hrd R2 hrg hq hqp hqn eL hLm hpa hpn hg1
            subst hk2
            clear hk0
            go_wp2_with (at_builtin; refine wpList_append_run rfl _ _ 51 rfl _ _ _ _ rfl rfl R.out ?_)
            go_loopw [12] (fun jv wz => ∃ (j : Nat), j ≤ m2 ∧ jv = .int .i64 (j : Int) ∧ Hid (TrnJ w wz b (i + 1) fo2 fl2 fc2 H2 m2 qs2)) (fun jv _ => m2 - (intOf jv).toNat)
            case atStart => exact ⟨0, by omega, rfl, J⟩
            case round =>
              clear J
              obtain ⟨j, hj, rfl, J⟩ := hrel
              by_cases hjm : j < m2
              · obtain ⟨q, N, vo, l, vc, hqn, hNl, hll, hnr, s1, s2, s3, s4, s5, s6, g2, eg2, hc2, rq, rl, hlen, hHl, hgl⟩ := J.out.at hjm
                subst eg2
                have T := hid (nearly_true (p := q) (w := wr.drew) rq.drew rl.drew hlen hnr)
                have d1 : ¬ (N : Int) + 1 < 1 := by omega
                have d2 : ¬ (fl2 : Int) < (N : Int) + 1 := by omega
                have d3 : decide ((fl2 : Int) < (N : Int) + 1) = false := decide_eq_false d2
                have d4 : ¬ fl2 ≤ N := by omega
                have e8 : (N : Int) + 1 - 1 = (N : Int) := by omega
                have e9 : IntKind.i64.wrap ((N : Int) + 1 - 1) = (N : Int) := by rw [IntKind.wrap_i64]; omega
                have hN0 : (0 : Int) ≤ (N : Int) := by omega
                have e10 : IntKind.i64.wrap (N : Int) = (N : Int) := by rw [IntKind.wrap_i64]; omega
                have hN1 : (0 : Int) ≤ (N : Int) + 1 - 1 := by omega
                have hN2 : (N : Int) + 1 - 1 < (fl2 : Int) := by omega
                have d5 : decide (fl2 ≤ N) = false := decide_eq_false d4
                have d6 : decide ((fl2 : Int) ≤ (N : Int)) = false := decide_eq_false (by omega)
                have d7 : decide (fl2 < N + 1) = false := decide_eq_false (by omega)
                have hjm' : (j : Int) < (m2 : Int) := by omega
                have hNb' : (N : Int) < (fl2 : Int) := by omega
                rw [hqn] at s1
                have HQN := hid hqn
                have T : Hid (Calls Try.prog 23 #[.agg #[.int .i64 ((N : Int) + 1), .int .i64 q.f, .int .i64 q.t, .int .i64 q.a, .int .i64 q.u, .slice q.ao q.bs.length q.c], .slice vo l.length vc] wr.drew (fun e w' => e = .returned (.bool true) ∧ Below wr.drew.heap.size wr.drew w')) := by
                  have h2 := T.out
                  have e4 : q.V = .agg #[.int .i64 ((N : Int) + 1), .int .i64 q.f, .int .i64 q.t, .int .i64 q.a, .int .i64 q.u, .slice q.ao q.bs.length q.c] := by unfold Pk.V; rw [HQN.out]
                  rw [e4] at h2
                  exact h2
                clear rq rl hnr hqn hlen
                have SV : Hid (∀ W, Below wr.drew.heap.size wr.drew W → W.cell? ⟨H2, j * 6, none⟩ = some (.int .i64 ((N : Int) + 1)) ∧ W.cell? ⟨H2, j * 6 + 1, none⟩ = some (.int .i64 q.f) ∧ W.cell? ⟨H2, j * 6 + 2, none⟩ = some (.int .i64 q.t) ∧ W.cell? ⟨H2, j * 6 + 3, none⟩ = some (.int .i64 q.a) ∧ W.cell? ⟨H2, j * 6 + 4, none⟩ = some (.int .i64 q.u) ∧ W.cell? ⟨H2, j * 6 + 5, none⟩ = some (.slice q.ao q.bs.length q.c) ∧ W.cell? ⟨g2, N, none⟩ = some (.slice vo l.length vc)) := hid (fun W hb => ⟨cell_under hb hHl s1, cell_under hb hHl s2, cell_under hb hHl s3, cell_under hb hHl s4, cell_under hb hHl s5, cell_under hb hHl s6, cell_under hb hgl hc2⟩)
                have q0 := hid (SV.out wr.drew (Below.refl _ _))
                go_wp2
                go_region_held3 (fun W => W.cell? ⟨H2, j * 6, none⟩ = some (.int .i64 ((N : Int) + 1)) ∧ W.cell? ⟨H2, j * 6 + 1, none⟩ = some (.int .i64 q.f) ∧ W.cell? ⟨H2, j * 6 + 2, none⟩ = some (.int .i64 q.t) ∧ W.cell? ⟨H2, j * 6 + 3, none⟩ = some (.int .i64 q.a) ∧ W.cell? ⟨H2, j * 6 + 4, none⟩ = some (.int .i64 q.u) ∧ W.cell? ⟨H2, j * 6 + 5, none⟩ = some (.slice q.ao q.bs.length q.c) ∧ W.cell? ⟨g2, N, none⟩ = some (.slice vo l.length vc)) (first | exact q0.out | exact q1.out | go_keep)
                  (first
                    | (go_at_call 23; refine T.out.mono ?_; rintro e w9 ⟨rfl, hb9⟩; have J2 := hid ((J.out.later (bd wr)).later hb9); have q1 := hid (SV.out w9 hb9); clear hb9))
                clear q0 q1 SV s1 s2 s3 s4 s5 s6 hc2 T
                go_wp2
                go_roundw
                case rel => exact ⟨j + 1, by omega, by go_num, J2⟩
                case measure => simp [intOf]; omega
              · go_wp2
                go_roundw
                case rel => exact ⟨i + 1, fo2, fl2, fc2, by omega, by go_num, rfl, by omega, hid J.out.toI⟩
                case measure => simp [intOf]; omega

          · have hT2 := HQ.out.2.1.one_rest (x := x.o) (Or.inr (by rw [HK.out]; exact ⟨hk0, hk2⟩))
            obtain ⟨fo2, hfo⟩ : ∃ fo2, fo2 = fo := ⟨_, rfl⟩
            subst hfo
            obtain ⟨fl2, hfl2⟩ : ∃ fl2, fl2 = fl := ⟨_, rfl⟩
            subst hfl2
            obtain ⟨fc2, hfc2⟩ : ∃ fc2, fc2 = fc := ⟨_, rfl⟩
            subst hfc2
            have J : Hid (TrnJ w w4 b (i + 1) fo2 fl2 fc2 H2 m2 qs2) := hid ⟨L, P2, B2, HQ.out.1, by rw [H2Q.out.2.1]; exact hT2, H2Q.out.2.2.2.1, H2Q.out.2.2.1, fun e he => ⟨H2Q.out.2.2.2.2 _ (HQ.out.2.2.2.2.1 e he).1, (HQ.out.2.2.2.2.1 e he).2⟩, H2Q.out.1, HQ2.out.1, HQ2.out.2, AJ.out⟩
            have b0 : (k == 0) = false := by simp; omega
            have b2 : (k == 2) = false := by simp; omega
            clear hT2 A4 hk0 hk2
            go_wp2
            go_loopw [12] (fun jv wz => ∃ (j : Nat), j ≤ m2 ∧ jv = .int .i64 (j : Int) ∧ Hid (TrnJ w wz b (i + 1) fo2 fl2 fc2 H2 m2 qs2)) (fun jv _ => m2 - (intOf jv).toNat)
            case atStart => exact ⟨0, by omega, rfl, J⟩
            case round =>
              clear J
              obtain ⟨j, hj, rfl, J⟩ := hrel
              by_cases hjm : j < m2
              · obtain ⟨q, N, vo, l, vc, hqn, hNl, hll, hnr, s1, s2, s3, s4, s5, s6, g2, eg2, hc2, rq, rl, hlen, hHl, hgl⟩ := J.out.at hjm
                subst eg2
                have T := hid (nearly_true (p := q) (w := wr.drew) rq.drew rl.drew hlen hnr)
                have d1 : ¬ (N : Int) + 1 < 1 := by omega
                have d2 : ¬ (fl2 : Int) < (N : Int) + 1 := by omega
                have d3 : decide ((fl2 : Int) < (N : Int) + 1) = false := decide_eq_false d2
                have d4 : ¬ fl2 ≤ N := by omega
                have e8 : (N : Int) + 1 - 1 = (N : Int) := by omega
                have e9 : IntKind.i64.wrap ((N : Int) + 1 - 1) = (N : Int) := by rw [IntKind.wrap_i64]; omega
                have hN0 : (0 : Int) ≤ (N : Int) := by omega
                have e10 : IntKind.i64.wrap (N : Int) = (N : Int) := by rw [IntKind.wrap_i64]; omega
                have hN1 : (0 : Int) ≤ (N : Int) + 1 - 1 := by omega
                have hN2 : (N : Int) + 1 - 1 < (fl2 : Int) := by omega
                have d5 : decide (fl2 ≤ N) = false := decide_eq_false d4
                have d6 : decide ((fl2 : Int) ≤ (N : Int)) = false := decide_eq_false (by omega)
                have d7 : decide (fl2 < N + 1) = false := decide_eq_false (by omega)
                have hjm' : (j : Int) < (m2 : Int) := by omega
                have hNb' : (N : Int) < (fl2 : Int) := by omega
                rw [hqn] at s1
                have HQN := hid hqn
                have T : Hid (Calls Try.prog 23 #[.agg #[.int .i64 ((N : Int) + 1), .int .i64 q.f, .int .i64 q.t, .int .i64 q.a, .int .i64 q.u, .slice q.ao q.bs.length q.c], .slice vo l.length vc] wr.drew (fun e w' => e = .returned (.bool true) ∧ Below wr.drew.heap.size wr.drew w')) := by
                  have h2 := T.out
                  have e4 : q.V = .agg #[.int .i64 ((N : Int) + 1), .int .i64 q.f, .int .i64 q.t, .int .i64 q.a, .int .i64 q.u, .slice q.ao q.bs.length q.c] := by unfold Pk.V; rw [HQN.out]
                  rw [e4] at h2
                  exact h2
                clear rq rl hnr hqn hlen
                have SV : Hid (∀ W, Below wr.drew.heap.size wr.drew W → W.cell? ⟨H2, j * 6, none⟩ = some (.int .i64 ((N : Int) + 1)) ∧ W.cell? ⟨H2, j * 6 + 1, none⟩ = some (.int .i64 q.f) ∧ W.cell? ⟨H2, j * 6 + 2, none⟩ = some (.int .i64 q.t) ∧ W.cell? ⟨H2, j * 6 + 3, none⟩ = some (.int .i64 q.a) ∧ W.cell? ⟨H2, j * 6 + 4, none⟩ = some (.int .i64 q.u) ∧ W.cell? ⟨H2, j * 6 + 5, none⟩ = some (.slice q.ao q.bs.length q.c) ∧ W.cell? ⟨g2, N, none⟩ = some (.slice vo l.length vc)) := hid (fun W hb => ⟨cell_under hb hHl s1, cell_under hb hHl s2, cell_under hb hHl s3, cell_under hb hHl s4, cell_under hb hHl s5, cell_under hb hHl s6, cell_under hb hgl hc2⟩)
                have q0 := hid (SV.out wr.drew (Below.refl _ _))
                go_wp2
                go_region_held3 (fun W => W.cell? ⟨H2, j * 6, none⟩ = some (.int .i64 ((N : Int) + 1)) ∧ W.cell? ⟨H2, j * 6 + 1, none⟩ = some (.int .i64 q.f) ∧ W.cell? ⟨H2, j * 6 + 2, none⟩ = some (.int .i64 q.t) ∧ W.cell? ⟨H2, j * 6 + 3, none⟩ = some (.int .i64 q.a) ∧ W.cell? ⟨H2, j * 6 + 4, none⟩ = some (.int .i64 q.u) ∧ W.cell? ⟨H2, j * 6 + 5, none⟩ = some (.slice q.ao q.bs.length q.c) ∧ W.cell? ⟨g2, N, none⟩ = some (.slice vo l.length vc)) (first | exact q0.out | exact q1.out | go_keep)
                  (first
                    | (go_at_call 23; refine T.out.mono ?_; rintro e w9 ⟨rfl, hb9⟩; have J2 := hid ((J.out.later (bd wr)).later hb9); have q1 := hid (SV.out w9 hb9); clear hb9))
                clear q0 q1 SV s1 s2 s3 s4 s5 s6 hc2 T
                go_wp2
                go_roundw
                case rel => exact ⟨j + 1, by omega, by go_num, J2⟩
                case measure => simp [intOf]; omega
              · go_wp2
                go_roundw
                case rel => exact ⟨i + 1, fo2, fl2, fc2, by omega, by go_num, rfl, by omega, hid J.out.toI⟩
                case measure => simp [intOf]; omega

      · have hT2 := HQ.out.2.1.one_rest (x := x.o) (Or.inl (by rw [← hE.out]; exact hE0))
        have hsame : B2.ab = B.ab := by rw [H2Q.out.2.1]; exact AB.one_none (by rw [← hE.out]; exact hE0)
        obtain ⟨fo2, hfo⟩ : ∃ fo2, fo2 = fo := ⟨_, rfl⟩
        subst hfo
        obtain ⟨fl2, hfl2⟩ : ∃ fl2, fl2 = fl := ⟨_, rfl⟩
        subst hfl2
        obtain ⟨fc2, hfc2⟩ : ∃ fc2, fc2 = fc := ⟨_, rfl⟩
        subst hfc2
        have J4 : Hid (TrnJ w w4 b (i + 1) fo2 fl2 fc2 H2 m2 qs2) := hid ⟨L, P2, B2, HQ.out.1, by rw [H2Q.out.2.1]; exact hT2, H2Q.out.2.2.2.1, H2Q.out.2.2.1, fun e he => ⟨H2Q.out.2.2.2.2 _ (HQ.out.2.2.2.2.1 e he).1, (HQ.out.2.2.2.2.1 e he).2⟩, H2Q.out.1, HQ2.out.1, HQ2.out.2, AJ.out⟩
        have b0 : (E == 0) = false := by simpa using hE0
        have b1 : (E != 0) = true := by simpa using hE0
        have SP := hid (samePackets_true (w := w4) (v := .slice (some ⟨H, 0, none⟩) m m) (v' := .slice (some ⟨H2, 0, none⟩) m2 m2) (show qs.map Pk.ap = qs2.map Pk.ap by rw [HQ2.out.1, hsame]; exact HQS.out.1) (PksAt.of_owns (A4.out.mem (c := pkC (.slice (some ⟨H, 0, none⟩) m m) qs) (by simp)).2.1) (PksAt.of_owns A4.out.1.2.1) (fun p hp => ⟨A4.out.byReads (by simp only [List.mem_cons, List.mem_append]; exact Or.inr (Or.inr (Or.inr (Or.inr (Or.inr (Or.inl (List.mem_map.2 ⟨p, hp, rfl⟩))))))), by
          have : p.ap ∈ B.ps.map Pk.ap := by rw [← HQS.out.1]; exact List.mem_map_of_mem hp
          obtain ⟨p0, hp0, e0⟩ := List.mem_map.1 this
          have e1 : p0.bs = p.bs := congrArg AP.bs e0
          rw [← e1]
          exact (HQ.out.2.2.2.1 p0 hp0).2⟩) (fun p hp => A4.out.byReads (by simp only [List.mem_cons, List.mem_append]; exact Or.inr (Or.inl (List.mem_map.2 ⟨p, hp, rfl⟩)))) (by rw [HQS.out.2]; omega))
        clear hT2 hsame A4 AK AJ hE0
        go_wp2_with fail
        refine SP.out.mono ?_
        rintro e w5 ⟨rfl, hb5⟩
        have J := hid (J4.out.later hb5)
        clear hb5 SP J4
        go_wp2
        go_loopw [12] (fun jv wz => ∃ (j : Nat), j ≤ m2 ∧ jv = .int .i64 (j : Int) ∧ Hid (TrnJ w wz b (i + 1) fo2 fl2 fc2 H2 m2 qs2)) (fun jv _ => m2 - (intOf jv).toNat)
        case atStart => exact ⟨0, by omega, rfl, J⟩
        case round =>
          clear J
          obtain ⟨j, hj, rfl, J⟩ := hrel
          by_cases hjm : j < m2
          · obtain ⟨q, N, vo, l, vc, hqn, hNl, hll, hnr, s1, s2, s3, s4, s5, s6, g2, eg2, hc2, rq, rl, hlen, hHl, hgl⟩ := J.out.at hjm
            subst eg2
            have T := hid (nearly_true (p := q) (w := wr.drew) rq.drew rl.drew hlen hnr)
            have d1 : ¬ (N : Int) + 1 < 1 := by omega
            have d2 : ¬ (fl2 : Int) < (N : Int) + 1 := by omega
            have d3 : decide ((fl2 : Int) < (N : Int) + 1) = false := decide_eq_false d2
            have d4 : ¬ fl2 ≤ N := by omega
            have e8 : (N : Int) + 1 - 1 = (N : Int) := by omega
            have e9 : IntKind.i64.wrap ((N : Int) + 1 - 1) = (N : Int) := by rw [IntKind.wrap_i64]; omega
            have hN0 : (0 : Int) ≤ (N : Int) := by omega
            have e10 : IntKind.i64.wrap (N : Int) = (N : Int) := by rw [IntKind.wrap_i64]; omega
            have hN1 : (0 : Int) ≤ (N : Int) + 1 - 1 := by omega
            have hN2 : (N : Int) + 1 - 1 < (fl2 : Int) := by omega
            have d5 : decide (fl2 ≤ N) = false := decide_eq_false d4
            have d6 : decide ((fl2 : Int) ≤ (N : Int)) = false := decide_eq_false (by omega)
            have d7 : decide (fl2 < N + 1) = false := decide_eq_false (by omega)
            have hjm' : (j : Int) < (m2 : Int) := by omega
            have hNb' : (N : Int) < (fl2 : Int) := by omega
            rw [hqn] at s1
            have HQN := hid hqn
            have T : Hid (Calls Try.prog 23 #[.agg #[.int .i64 ((N : Int) + 1), .int .i64 q.f, .int .i64 q.t, .int .i64 q.a, .int .i64 q.u, .slice q.ao q.bs.length q.c], .slice vo l.length vc] wr.drew (fun e w' => e = .returned (.bool true) ∧ Below wr.drew.heap.size wr.drew w')) := by
              have h2 := T.out
              have e4 : q.V = .agg #[.int .i64 ((N : Int) + 1), .int .i64 q.f, .int .i64 q.t, .int .i64 q.a, .int .i64 q.u, .slice q.ao q.bs.length q.c] := by unfold Pk.V; rw [HQN.out]
              rw [e4] at h2
              exact h2
            clear rq rl hnr hqn hlen
            have SV : Hid (∀ W, Below wr.drew.heap.size wr.drew W → W.cell? ⟨H2, j * 6, none⟩ = some (.int .i64 ((N : Int) + 1)) ∧ W.cell? ⟨H2, j * 6 + 1, none⟩ = some (.int .i64 q.f) ∧ W.cell? ⟨H2, j * 6 + 2, none⟩ = some (.int .i64 q.t) ∧ W.cell? ⟨H2, j * 6 + 3, none⟩ = some (.int .i64 q.a) ∧ W.cell? ⟨H2, j * 6 + 4, none⟩ = some (.int .i64 q.u) ∧ W.cell? ⟨H2, j * 6 + 5, none⟩ = some (.slice q.ao q.bs.length q.c) ∧ W.cell? ⟨g2, N, none⟩ = some (.slice vo l.length vc)) := hid (fun W hb => ⟨cell_under hb hHl s1, cell_under hb hHl s2, cell_under hb hHl s3, cell_under hb hHl s4, cell_under hb hHl s5, cell_under hb hHl s6, cell_under hb hgl hc2⟩)
            have q0 := hid (SV.out wr.drew (Below.refl _ _))
            go_wp2
            go_region_held3 (fun W => W.cell? ⟨H2, j * 6, none⟩ = some (.int .i64 ((N : Int) + 1)) ∧ W.cell? ⟨H2, j * 6 + 1, none⟩ = some (.int .i64 q.f) ∧ W.cell? ⟨H2, j * 6 + 2, none⟩ = some (.int .i64 q.t) ∧ W.cell? ⟨H2, j * 6 + 3, none⟩ = some (.int .i64 q.a) ∧ W.cell? ⟨H2, j * 6 + 4, none⟩ = some (.int .i64 q.u) ∧ W.cell? ⟨H2, j * 6 + 5, none⟩ = some (.slice q.ao q.bs.length q.c) ∧ W.cell? ⟨g2, N, none⟩ = some (.slice vo l.length vc)) (first | exact q0.out | exact q1.out | go_keep)
              (first
                | (go_at_call 23; refine T.out.mono ?_; rintro e w9 ⟨rfl, hb9⟩; have J2 := hid ((J.out.later (bd wr)).later hb9); have q1 := hid (SV.out w9 hb9); clear hb9))
            clear q0 q1 SV s1 s2 s3 s4 s5 s6 hc2 T
            go_wp2
            go_roundw
            case rel => exact ⟨j + 1, by omega, by go_num, J2⟩
            case measure => simp [intOf]; omega
          · go_wp2
            go_roundw
            case rel => exact ⟨i + 1, fo2, fl2, fc2, by omega, by go_num, rfl, by omega, hid J.out.toI⟩
            case measure => simp [intOf]; omega

    · go_wp2
      go_ret
      obtain ⟨L, P, B, -, -, -, -, -, -, A⟩ := I.out.ex
      exact ⟨rfl, A.into (w0 := w) (by simp)⟩
set_option maxHeartbeats 800000 in
set_option maxRecDepth 1000000 in
theorem turned_room {xs : List OpV} {s : Value} {r : Int} {w : World} (hs : OpsAt w s xs) (h : ¬ (1 ≤ r ∧ r ≤ 1024)) : Calls Try.prog 5 #[.int .i64 r, s] w fun e w' => e = .returned (.bool true) ∧ Below w.heap.size w w' := by
  obtain ⟨so, sc, hsf, _⟩ := hs
  subst hsf
  have C0 := hid (shown_any (All.came w))
  have C1 := hid (fun w => New_no (w := w) h)
  by_cases h1 : r < 1
  · clear h
    go_enter Try.func5, Try.ntmps5
    go_wp2_with fail
    refine C0.out.mono ?_
    rintro e w0 ⟨rfl, A0⟩
    have BW := hid (A0.into (w0 := w) (by simp))
    clear A0 C0
    go_wp2_with (go_at_call 19; refine (C1.out _).mono ?_; rintro e w' ⟨rfl, rfl⟩)
    go_ret
    exact ⟨rfl, BW.out⟩
  · have h2 : 1024 < r := by omega
    clear h
    go_enter Try.func5, Try.ntmps5
    go_wp2_with fail
    refine C0.out.mono ?_
    rintro e w0 ⟨rfl, A0⟩
    have BW := hid (A0.into (w0 := w) (by simp))
    clear A0 C0
    go_wp2_with (go_at_call 19; refine (C1.out _).mono ?_; rintro e w' ⟨rfl, rfl⟩)
    go_ret
    exact ⟨rfl, BW.out⟩
/-- THE LAW. -/
theorem turned_any {xs : List OpV} {s : Value} {r : Int} {w : World} (hs : OpsAt w s xs) (hl : xs.length * 64 ≤ 140737488351232) : Calls Try.prog 5 #[.int .i64 r, s] w fun e w' => e = .returned (.bool true) ∧ Below w.heap.size w w' := by
  by_cases h : 1 ≤ r ∧ r ≤ 1024
  · exact turned_loop hs hl h.1 h.2
  · exact turned_room hs h
end Go.Proofs.Ytpfpamkbahgkpaa

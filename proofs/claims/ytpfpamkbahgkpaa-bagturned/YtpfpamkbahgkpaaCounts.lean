import Derived.Test.YtpfpamkbahgkpaaCntP
import Derived.Test.YtpfpamkbahgkpaaLaw4
namespace Go.Proofs.Ytpfpamkbahgkpaa
open Go.RowKit
set_option linter.unusedVariables false

theorem one_new {x : Value} {H : Nat} {W : World} (hc : W.cell? ⟨H, 0, none⟩ = some x) : ∀ j u, [x][j]? = some u → W.cell? ((⟨H, 0, none⟩ : Addr).add j) = some u := by
  intro j u hu
  rw [Addr.add_lit]
  match j with
  | 0 => simp only [List.getElem?_cons_zero, Option.some.injEq] at hu; subst hu; simpa using hc
  | j + 1 => simp at hu
theorem one_cell {x : Value} (h : x.oneCell' = true) : ∀ u ∈ [x], u.oneCell' = true := by
  intro u hu
  simp only [List.mem_cons, List.not_mem_nil, or_false] at hu
  subst hu
  exact h
/-- One more is laid behind one's own. -/
theorem app1 {W : World} {e t : TypeId} {i : TypeInfo} {z v x : Value} {bytes H : Nat} {us : List Value} {cs : List Comp} (hu : Try.prog.underlying t = some (.slice e)) (hi : Try.prog.info? e = some i) (hz : i.zero = some z) (hsize : i.size = 1) (hby : i.bytes = bytes) (hzs : z.cells.size = 1)
    (A : All (ownC e v us :: cs) W) (hc : W.cell? ⟨H, 0, none⟩ = some x) (h1 : x.oneCell' = true) (hl : us.length + 1 ≤ maxLen) (hl2 : (us.length + 1) * bytes ≤ 140737488355328) :
    ∃ ao c w', (Builtin.append_ #[t, t] t #[v, .slice (some ⟨H, 0, none⟩) 1 1]).run Try.prog W = .ok (.slice ao (us.length + 1) c) w' ∧ All (ownC e (.slice ao (us.length + 1) c) (us ++ [x]) :: cs) w' := by
  have hown : W.ownsRow 0 e 1 v us.length us := A.1.2.1
  obtain ⟨v', w', hr, h2, h3, h4, h5⟩ := run_append_own_at (P := Try.prog) W 0 t t e i z 1 bytes hu hi hz hsize hby hzs (by decide) v us.length us hown ⟨H, 0, none⟩ 1 1 [x] (by simp) (one_new hc) (one_cell h1) hl hl2 (by omega)
  obtain ⟨ao', c', rfl⟩ := owns_form h2
  refine ⟨ao', c', w', hr, A.ownGrow (vs' := us ++ [x]) (base := 0) ?_ h3 h5⟩
  rw [List.length_append]
  exact h2
theorem Try.info3 : (Try.prog.info? 3).map (fun i => (i.zero, i.size, i.bytes)) = some (some (.int .i64 0), 1, 8) := by kernel_rfl
/-- Numbers as cells. -/
def cellsI (l : List Int) : List Value := l.map fun z => Value.int .i64 z
theorem cellsI_length (l : List Int) : (cellsI l).length = l.length := by simp [cellsI]
theorem app_int {W : World} {v : Value} {l : List Int} {z : Int} {cs : List Comp} (A : All (ownC 3 v (cellsI l) :: cs) W) (hl : (l.length + 1) * 8 ≤ 140737488355328) :
    ∃ ao c w', (Builtin.append_ #[45, 45] 45 #[v, .slice (some ⟨W.heap.size, 0, none⟩) 1 1]).run Try.prog (W.alloc (.cells #[.int .i64 z] 3)) = .ok (.slice ao (l.length + 1) c) w' ∧ All (ownC 3 (.slice ao (l.length + 1) c) (cellsI (l ++ [z])) :: cs) w' := by
  obtain ⟨i1, hi1, hz0, hz1, hz2⟩ := info_parts Try.info3
  have := app1 (H := W.heap.size) (x := .int .i64 z) Try.underlying45 hi1 hz0 hz1 hz2 rfl (A.alloc (.cells #[.int .i64 z] 3)) (by rw [cell_at (heap_alloc_new W _)]; rfl) rfl (by rw [cellsI_length]; unfold maxLen; omega) (by rw [cellsI_length]; exact hl)
  rw [cellsI_length] at this
  rw [show cellsI (l ++ [z]) = cellsI l ++ [.int .i64 z] by simp [cellsI]]
  exact this

theorem perm_in (a p b r : Comp) (X : List Comp) : (a :: p :: b :: r :: X).Perm (p :: b :: r :: a :: X) := by
  have := perm_by 5 [[a], [p], [b], [r], X] [1, 2, 3, 0, 4] rfl (by decide)
  simpa [List.getD] using this
theorem perm_out (p b r k o : Comp) (X : List Comp) : (p :: b :: r :: k :: o :: X).Perm (o :: k :: p :: b :: r :: X) := by
  have := perm_by 6 [[p], [b], [r], [k], [o], X] [4, 3, 0, 1, 2, 5] rfl (by decide)
  simpa [List.getD] using this
theorem perm_back (p b r k o : Comp) (X : List Comp) : (o :: k :: p :: b :: r :: X).Perm (k :: p :: b :: r :: o :: X) := by
  have := perm_by 6 [[o], [k], [p], [b], [r], X] [1, 2, 3, 4, 0, 5] rfl (by decide)
  simpa [List.getD] using this

/-- What the loop keeps. -/
structure CntI (w wr : World) (b i : Nat) (r la : Int) (t o : Nat) (bo : Option Addr) (bl bc : Nat) : Prop where
  ex : ∃ (born : List Int) (P : List (Value × List UInt8)) (B : Bg), born.length = bl ∧ Cnt B.ab t o born ∧ B.ab.Ok i ∧ B.In P ∧ B.b = b ∧ B.ab.l = la ∧ B.ab.r = r ∧ All (poolC P :: (B.L ++ (ownC 3 (.slice bo bl bc) (cellsI born) :: [inC w]))) wr

set_option maxHeartbeats 3200000 in
set_option maxRecDepth 1000000 in
theorem counts_loop {xs : List OpV} {s : Value} {r : Int} {w : World} (hs : OpsAt w s xs) (hl : xs.length * 64 ≤ 140737488351232) (h1 : 1 ≤ r) (h2 : r ≤ 1024) : Calls Try.prog 4 #[.int .i64 r, s] w fun e w' => e = .returned (.bool true) ∧ Below w.heap.size w w' := by
  have HS := hid hs
  obtain ⟨so, sc, hsf, _⟩ := hs
  subst hsf
  have C0 := hid (shown_any (All.came w))
  obtain ⟨n, hn⟩ : ∃ n, Hid (n = xs.length) := ⟨_, hid rfl⟩
  rw [← hn.out] at HS hl ⊢
  have h1' : ¬ r < 1 := by omega
  have h2' : ¬ 1024 < r := by omega
  go_enter Try.func4, Try.ntmps4
  go_wp2_with fail
  refine C0.out.mono ?_
  rintro e w0 ⟨rfl, A0⟩
  have C1 := hid (New_ok (r := r) A0 h1 h2)
  clear C0 A0
  go_wp2_with fail
  refine C1.out.mono ?_
  rintro e w1 ⟨b, rfl, A1⟩
  have I0 : Hid (CntI w (w1.alloc (.cells #[] 3)) b 0 r 0 0 0 (some ⟨w1.heap.size, 0, none⟩) 0 0) := hid ⟨[], [], Bg.mk b r 0 (.slice none 0 0) [], rfl, Cnt.new r, AB.Ok.new h1 h2, fun p hp => (by cases hp), rfl, rfl, rfl, by
    have A2 : All (ownC 3 (.slice (some ⟨w1.heap.size, 0, none⟩) 0 0) (cellsI []) :: (poolC [] :: ((Bg.mk b r 0 (.slice none 0 0) []).L ++ [inC w]))) (w1.alloc (.cells #[] 3)) := A1.pool0.addOwn (ba w1 _) (World.ownsRow_made (base := w1.heap.size) (e := 3) (size := 1) w1 #[] 0 (Nat.le_refl _) (by unfold maxLen; omega) rfl)
    exact A2.perm (perm_in _ _ _ _ _)⟩
  clear C1 A1
  go_wp2
  go_loopw [7, 8, 9, 10, 11] (fun lv tv ov bv iv wr => ∃ (i t o bl bc : Nat) (la : Int) (bo : Option Addr), i ≤ n ∧ iv = .int .i64 (i : Int) ∧ lv = .int .i64 la ∧ tv = .int .i64 (t : Int) ∧ ov = .int .i64 (o : Int) ∧ bv = .slice bo bl bc ∧ t ≤ i ∧ o ≤ i ∧ bl ≤ i ∧ 0 ≤ la ∧ la ≤ i ∧ Hid (CntI w wr b i r la t o bo bl bc)) (fun _ _ _ _ iv _ => n - (intOf iv).toNat)
  case atStart => exact ⟨0, 0, 0, 0, 0, 0, _, by omega, rfl, rfl, rfl, rfl, rfl, by omega, by omega, by omega, by omega, by omega, I0⟩
  case round =>
    clear I0
    obtain ⟨i, t, o, bl, bc, la, bo, hi, rfl, rfl, rfl, rfl, rfl, ht, ho, hbl, hla0, hla1, I⟩ := hrel
    by_cases hlt : i < n
    · obtain ⟨born, P, B, hbn, hC, hok, hin, hb, hla, hrr, A⟩ := I.out.ex
      have hx : ∃ x, xs[i]? = some x := ⟨_, List.getElem?_eq_getElem (by rw [← hn.out]; exact hlt)⟩
      obtain ⟨x, hx⟩ := hx
      have hBl := A.into (w0 := w) (by simp)
      obtain ⟨g, go, e1, hg, ⟨s1, s2, s3, s4, s5, s6⟩, hrd, hdl⟩ := (HS.out.later hBl).at hx
      subst e1
      have hK : wr.heap.size ≠ g := by omega
      have A1 : All (poolC P :: (B.L ++ (blkC wr.heap.size x.cells 33 :: ownC 3 (.slice bo bl bc) (cellsI born) :: [inC w]))) (wr.alloc (.cells x.cells.toArray 33)) := (A.addBlk x.cells 33).perm (perm_in _ _ _ _ _)
      have C := hid (one_any (o := x.o) (ao := x.ao) (c := x.c) A1 hin hok (by omega) (hrd.below (ba wr _)) (by omega))
      rw [show B.V = .pointer (some ⟨b, 0, none⟩) by unfold Bg.V; rw [hb]] at C
      have eW : Hid (wr.alloc (.cells #[.bool x.o.s, .int .i64 x.o.k, .int .i64 x.o.a, .int .i64 x.o.b, .int .i64 x.o.y, .slice x.ao x.o.d.length x.c] 33) = wr.alloc (.cells x.cells.toArray 33)) := hid rfl
      obtain ⟨E, hE⟩ : ∃ E, Hid (E = B.ab.oneE x.o) := ⟨_, hid rfl⟩
      rw [← hE.out] at C
      have HC := hid hC
      have HQ := hid (And.intro hbn (And.intro hok (And.intro hin (And.intro hb hla))))
      have HRR := hid hrr
      clear hrr
      have hii : (i : Int) < (n : Int) := by omega
      clear A A1 hC hbn hok hin hb hla I hBl hx hrd
      go_wp2_with fail
      rw [eW.out]
      refine C.out.mono ?_
      rintro e w2 ⟨rfl, P2, B2, hb2, hab2, hin2, -, A2⟩
      obtain ⟨hbn, hok, hin, hb, hla⟩ := HQ.out
      have hb2 : B2.b = b := hb2.trans hb
      have hok2 : B2.ab.Ok (i + 1) := by rw [hab2]; exact hok.one x.o
      have s2 : w2.cell? ⟨wr.heap.size, 1, none⟩ = some (.int .i64 x.o.k) := by
        rw [cell_at (A2.mem (c := blkC wr.heap.size x.cells 33) (by simp)).2.1]; rfl
      have A2 := hid A2
      have H2 := hid (And.intro hb2 (And.intro hab2 (And.intro hin2 hok2)))
      clear C s1 s3 s4 s5 s6 hbn hok hin hb hla hb2 hab2 hin2 hok2 eW hg
      generalize hk : x.o.k = k at *
      have HK := hid hk
      clear hk
      have NX : Hid (∀ t' o', Cnt (B.ab.one x.o) t' o' born → (B.ab.one x.o).l = B.ab.l → CntI w w2 b (i + 1) r la t' o' bo bl bc) := hid (fun t' o' hC2 hl2 => ⟨born, P2, B2, HQ.out.1, by rw [H2.out.2.1]; exact hC2, H2.out.2.2.2, H2.out.2.2.1, H2.out.1, by rw [H2.out.2.1, hl2, HQ.out.2.2.2.2], by rw [H2.out.2.1, AB.one_r, HRR.out], (A2.out.perm (perm_in _ _ _ _ _).symm).tail⟩)
      by_cases hE0 : E = 0
      · subst hE0
        by_cases hk02 : k = 0 ∨ k = 2
        · obtain ⟨hC2, hl2⟩ := HC.out.one_lay (x := x.o) (by rw [HK.out]; exact hk02) hE.out.symm
          have A3 : All (ownC 3 (.slice bo bl bc) (cellsI born) :: blkC wr.heap.size x.cells 33 :: poolC P2 :: (B2.L ++ [inC w])) w2 := A2.out.perm (perm_out _ _ _ _ _ _)
          obtain ⟨ao, cc, w3, hr, A4⟩ := app_int (z := (o : Int)) A3 (by rw [HQ.out.1]; omega)
          rw [HQ.out.1] at hr A4
          have s3 : w3.cell? ⟨wr.heap.size, 1, none⟩ = some (.int .i64 k) := by
            rw [cell_at (A4.mem (c := blkC wr.heap.size x.cells 33) (by simp)).2.1]; simp [OpV.cells, HK.out]
          have R := hid hr
          have I2 : Hid (CntI w w3 b (i + 1) r (la + 1) t o ao (bl + 1) cc) := hid ⟨born ++ [(o : Int)], P2, B2, by simp [HQ.out.1], by rw [H2.out.2.1]; exact hC2, H2.out.2.2.2, H2.out.2.2.1, H2.out.1, by rw [H2.out.2.1, hl2, HQ.out.2.2.2.2], by rw [H2.out.2.1, AB.one_r, HRR.out], (A4.perm (perm_back _ _ _ _ _ _)).tail⟩
          clear A3 A4 hr hC2 hl2 A2
          rcases hk02 with rfl | rfl
          · go_wp2_with (at_builtin; refine wpList_append_run rfl _ _ 45 rfl _ _ _ _ rfl rfl R.out ?_)
            go_roundw
            case rel => exact ⟨i + 1, t, o, bl + 1, cc, la + 1, ao, by omega, by go_num, rfl, rfl, rfl, rfl, by omega, by omega, by omega, by omega, by omega, I2⟩
            case measure => simp [intOf]; omega
          · go_wp2_with (at_builtin; refine wpList_append_run rfl _ _ 45 rfl _ _ _ _ rfl rfl R.out ?_)
            go_roundw
            case rel => exact ⟨i + 1, t, o, bl + 1, cc, la + 1, ao, by omega, by go_num, rfl, rfl, rfl, rfl, by omega, by omega, by omega, by omega, by omega, I2⟩
            case measure => simp [intOf]; omega
        · by_cases hk1 : k = 1
          · obtain ⟨hC2, hl2⟩ := HC.out.one_take (x := x.o) (by rw [HK.out]; exact hk1) hE.out.symm
            have I2 := hid (NX.out _ _ hC2 hl2)
            clear hC2 hl2 NX A2 hk02
            subst hk1
            go_wp2
            go_roundw
            case rel => exact ⟨i + 1, t + 1, o, bl, bc, la, bo, by omega, by go_num, rfl, by go_num, rfl, rfl, by omega, by omega, by omega, by omega, by omega, I2⟩
            case measure => simp [intOf]; omega
          · by_cases hk4 : k = 4
            · obtain ⟨hC2, hl2, -⟩ := HC.out.one_old (x := x.o) (by rw [HK.out]; exact hk4)
              have I2 := hid (NX.out _ _ hC2 hl2)
              clear hC2 hl2 NX A2 hk02 hk1
              subst hk4
              go_wp2
              go_roundw
              case rel => exact ⟨i + 1, t, o + 1, bl, bc, la, bo, by omega, by go_num, rfl, rfl, by go_num, rfl, by omega, by omega, by omega, by omega, by omega, I2⟩
              case measure => simp [intOf]; omega
            · obtain ⟨hC2, hl2⟩ := HC.out.one_rest (x := x.o) (Or.inr (by rw [HK.out]; omega))
              have I2 := hid (NX.out _ _ hC2 hl2)
              have b0 : (k == 0) = false := by simp; omega
              have b1 : (k == 1) = false := by simp; omega
              have b2 : (k == 2) = false := by simp; omega
              have b4 : (k == 4) = false := by simp; omega
              clear hC2 hl2 NX A2 hk02 hk1 hk4
              go_wp2
              go_roundw
              case rel => exact ⟨i + 1, t, o, bl, bc, la, bo, by omega, by go_num, rfl, rfl, rfl, rfl, by omega, by omega, by omega, by omega, by omega, I2⟩
              case measure => simp [intOf]; omega
      · obtain ⟨hC2, hl2⟩ := HC.out.one_rest (x := x.o) (Or.inl (by rw [← hE.out]; exact hE0))
        have I2 := hid (NX.out _ _ hC2 hl2)
        have b0 : (E == 0) = false := by simpa using hE0
        have hk4 : k ≠ 4 := fun e => hE0 (hE.out.trans (HC.out.one_old (x := x.o) (by rw [HK.out]; exact e)).2.2)
        have b4 : (k == 4) = false := by simpa using hk4
        clear hC2 hl2 NX A2 hk4 hE0
        go_wp2
        go_roundw
        case rel => exact ⟨i + 1, t, o, bl, bc, la, bo, by omega, by go_num, rfl, rfl, rfl, rfl, by omega, by omega, by omega, by omega, by omega, I2⟩
        case measure => simp [intOf]; omega
    · obtain ⟨born, P, B, hbn, hC, hok, hin, hb, hla, hrr, A⟩ := I.out.ex
      have hin' : Hid (i = n) := hid (by omega)
      have hm := hok.small
      rw [B.ab_len] at hm
      have C := hid (List_any A hin hm)
      obtain ⟨m, hmm⟩ : ∃ m, Hid (m = B.ps.length) := ⟨_, hid rfl⟩
      rw [show B.V = .pointer (some ⟨b, 0, none⟩) by unfold Bg.V; rw [hb], ← hmm.out] at C
      have hm' : m ≤ 1024 := by rw [hmm.out]; exact hm
      have hcnt := hC.cnt
      rw [B.ab_len, hla, ← hmm.out] at hcnt
      have hroom := hok.len
      rw [B.ab_len, hrr, ← hmm.out] at hroom
      have HQ := hid (And.intro hbn (And.intro hC (And.intro hok (And.intro hin (And.intro hb hla)))))
      clear A hbn hC hok hin hb hla I hm hrr
      go_wp2_with fail
      refine C.out.mono ?_
      rintro e w3 ⟨H, qs, rfl, hqs, -, A3⟩
      have hql : qs.length = m := by have := congrArg List.length hqs; rw [hmm.out]; simpa using this
      have C2 := hid (Len_any (B := B) (A3.perm (List.perm_append_comm_assoc (pkC (.slice (some ⟨H, 0, none⟩) m m) qs :: (datL qs ++ [poolC P])) B.L _ |> fun p => by simpa using p)) (by rw [← hmm.out]; omega))
      rw [show B.V = .pointer (some ⟨b, 0, none⟩) by unfold Bg.V; rw [HQ.out.2.2.2.2.1], ← hmm.out] at C2
      have R1 : Hid (w3.ownsRow 0 49 6 (.slice (some ⟨H, 0, none⟩) m m) qs.length (flatP qs)) := hid A3.1.2.1
      have R2 : Hid (w3.ownsRow 0 3 1 (.slice bo bl bc) (cellsI born).length (cellsI born)) := hid (A3.mem (c := ownC 3 (.slice bo bl bc) (cellsI born)) (by simp)).2.1
      have BW := hid (A3.into (w0 := w) (by simp))
      have HQS := hid (And.intro hqs hql)
      clear A3 hqs hql C
      go_wp2_with fail
      refine C2.out.mono ?_
      rintro e w4 ⟨rfl, rfl⟩
      have b1 : ((m : Int) + (t : Int) != la) = false := by simp; omega
      have b2 : ¬ r < (m : Int) := by omega
      have HCN := hid hcnt
      clear hcnt
      have hmi : (m : Int) + (t : Int) ≤ 9223372036854775807 := by omega
      go_wp2
      go_loopw [15, 16] (fun lv jv wz => ∃ (j q : Nat) (L : Int), j ≤ m ∧ jv = .int .i64 (j : Int) ∧ lv = .int .i64 L ∧ Hid (L = lastN B.ab.ps j) ∧ wz = w4.drewN q) (fun _ jv _ => m - (intOf jv).toNat)
      case atStart => exact ⟨0, 0, 0, by omega, rfl, rfl, hid rfl, rfl⟩
      case round =>
        obtain ⟨j, q, L, hj, rfl, rfl, hL, hw⟩ := hrel
        by_cases hjm : j < m
        · have hjq : j < qs.length := by rw [HQS.out.2]; exact hjm
          obtain ⟨p, hp⟩ : ∃ p, qs[j]? = some p := ⟨_, List.getElem?_eq_getElem hjq⟩
          have hpa : B.ab.ps[j]? = some p.ap := by
            have := congrArg (fun l => l[j]?) HQS.out.1
            simp only [List.getElem?_map, hp, Option.map_some] at this
            simp only [Bg.ab, List.getElem?_map]
            exact this.symm
          obtain ⟨N, c, e1, e2, e3, e4, e5, e6, e7⟩ := HQ.out.2.1.at HQ.out.2.2.1 hpa
          have e1 : p.n = (N : Int) + 1 := e1
          have e3 : p.a = (o : Int) - c := e3
          obtain ⟨g1, c1, ev, hg1, hrg, -⟩ := row_at (show w4.ownsRow 0 49 6 (.slice (some ⟨H, 0, none⟩) m m) qs.length (flatP qs) from R1.out) hp
          simp only [Value.slice.injEq, Option.some.injEq, Addr.mk.injEq, and_true] at ev
          obtain ⟨rfl, -, -⟩ := ev
          obtain ⟨s1, -, -, s4, -, -⟩ := pkAt_of hrg
          obtain ⟨g2, eb, k1, -⟩ := owns_at R2.out (k := N) (u := .int .i64 c) (by simp [cellsI, e2])
          subst eb
          have hNb : N < bl := by rw [← HQ.out.1]; exact (List.getElem?_eq_some_iff.1 e2).1
          have hNl : (N : Int) + 1 ≤ la := by
            have := HQ.out.2.1.len
            rw [HQ.out.1, HQ.out.2.2.2.2.2] at this
            omega
          rw [e1] at s1
          rw [e3] at s4
          rw [← hL.out] at e6
          have s1 : wr.cell? ⟨H, j * 6, none⟩ = some (.int .i64 ((N : Int) + 1)) := by rw [hw]; exact s1
          have s4 : wr.cell? ⟨H, j * 6 + 3, none⟩ = some (.int .i64 ((o : Int) - c)) := by rw [hw]; exact s4
          have k1 : wr.cell? ⟨g2, N, none⟩ = some (.int .i64 c) := by rw [hw]; exact k1
          have HW := hid hw
          have H7 := hid e7
          have d1 : ¬ (N : Int) + 1 ≤ L := by omega
          have d2 : ¬ la < (N : Int) + 1 := by omega
          have d3 : decide ((N : Int) + 1 ≤ L) = false := decide_eq_false d1
          have d4 : decide (la < (N : Int) + 1) = false := decide_eq_false d2
          have hjm' : (j : Int) < (m : Int) := by omega
          have hNb' : (N : Int) < (bl : Int) := by omega
          clear hw hp hpa e1 e2 e3 e7 hrg hL hjq
          go_wp2
          go_quiet (fail)
          go_wp2
          go_roundw
          case rel => exact ⟨j + 1, _, (N : Int) + 1, by omega, by go_num, rfl, hid H7.out.symm, by rw [HW.out]; simp [World.drewN, Nat.add_assoc]; rfl⟩
          case measure => simp [intOf]; omega
        · go_wp2
          go_ret
          exact ⟨rfl, BW.out.trans ((bdN w4 q).mono BW.out.size)⟩

set_option maxHeartbeats 800000 in
set_option maxRecDepth 1000000 in
theorem counts_room {xs : List OpV} {s : Value} {r : Int} {w : World} (hs : OpsAt w s xs) (h : ¬ (1 ≤ r ∧ r ≤ 1024)) : Calls Try.prog 4 #[.int .i64 r, s] w fun e w' => e = .returned (.bool true) ∧ Below w.heap.size w w' := by
  obtain ⟨so, sc, hsf, _⟩ := hs
  subst hsf
  have C0 := hid (shown_any (All.came w))
  have C1 := hid (fun w => New_no (w := w) h)
  by_cases h1 : r < 1
  · clear h
    go_enter Try.func4, Try.ntmps4
    go_wp2_with fail
    refine C0.out.mono ?_
    rintro e w0 ⟨rfl, A0⟩
    have BW := hid (A0.into (w0 := w) (by simp))
    clear A0 C0
    go_wp2_with (go_at_call 19; refine (C1.out _).mono ?_; rintro e w' ⟨rfl, rfl⟩)
    go_ret
    exact ⟨rfl, BW.out⟩
  · have h2 : 1024 < r := by omega
    clear h
    go_enter Try.func4, Try.ntmps4
    go_wp2_with fail
    refine C0.out.mono ?_
    rintro e w0 ⟨rfl, A0⟩
    have BW := hid (A0.into (w0 := w) (by simp))
    clear A0 C0
    go_wp2_with (go_at_call 19; refine (C1.out _).mono ?_; rintro e w' ⟨rfl, rfl⟩)
    go_ret
    exact ⟨rfl, BW.out⟩
/-- THE LAW. -/
theorem counts_any {xs : List OpV} {s : Value} {r : Int} {w : World} (hs : OpsAt w s xs) (hl : xs.length * 64 ≤ 140737488351232) : Calls Try.prog 4 #[.int .i64 r, s] w fun e w' => e = .returned (.bool true) ∧ Below w.heap.size w w' := by
  by_cases h : 1 ≤ r ∧ r ≤ 1024
  · exact counts_loop hs hl h.1 h.2
  · exact counts_room hs h
end Go.Proofs.Ytpfpamkbahgkpaa

import Derived.Test.YtaomhahmpbfjhaaBooks
namespace Go.Proofs.Ytaomhahmpbfjhaa
open Go.RowKit
set_option linter.unusedVariables false

theorem flatX_get : ∀ {ys : List Xs} {i j : Nat} {y : Xs}, ys[i]? = some y → j < 3 → (flatX ys)[i * 3 + j]? = y.cells[j]?
  | [], i, j, y, h, _ => by simp at h
  | x :: ys, 0, j, y, h, hj => by
    simp at h
    subst h
    simp only [flatX, List.flatMap_cons, Nat.zero_mul, Nat.zero_add]
    rw [List.getElem?_append_left (by simpa [Xs.cells] using hj)]
  | x :: ys, i + 1, j, y, h, hj => by
    simp at h
    have := flatX_get (j := j) h hj
    simp only [flatX, List.flatMap_cons] at this ⊢
    rw [List.getElem?_append_right (by simp [Xs.cells]; omega), ← this]
    congr 1
    simp [Xs.cells]
    omega

/-- A row of sheets, read at a place. -/
theorem row_at {w : World} {ao : Option Addr} {c i : Nat} {ys : List Xs} {y : Xs} (h : w.ownsRow 0 51 3 (.slice ao ys.length c) ys.length (flatX ys)) (hy : ys[i]? = some y) :
    ∃ gr, ao = some ⟨gr, 0, none⟩ ∧ gr < w.heap.size ∧ w.cell? ⟨gr, i * 3, none⟩ = some (.int .i64 (y.num : Int)) ∧ w.cell? ⟨gr, i * 3 + 1, none⟩ = some (.int .i64 (y.at_ : Int)) ∧ w.cell? ⟨gr, i * 3 + 2, none⟩ = some (.slice y.ao y.len y.cap) := by
  have hi := (List.getElem?_eq_some_iff.1 hy).1
  have hc := fun g => World.ownsRow.cells h (g := g)
  rcases h.2 with ⟨e, e2⟩ | ⟨gr, cap, cur, e, _, hg, _⟩
  · omega
  · simp only [Value.slice.injEq] at e
    obtain ⟨rfl, _, rfl⟩ := e
    have key : ∀ j u, j < 3 → y.cells[j]? = some u → w.cell? ⟨gr, i * 3 + j, none⟩ = some u := fun j u hj hu => by
      have := hc gr rfl (i * 3 + j) u (by rw [flatX_get hy hj]; exact hu)
      simpa [Addr.add_lit] using this
    exact ⟨gr, rfl, (Array.getElem?_eq_some_iff.1 hg).1, key 0 _ (by omega) rfl, key 1 _ (by omega) rfl, key 2 _ (by omega) rfl⟩

/-- Sheets that may be laid in. -/
structure Fit (n : Nat) (ys : List Xs) : Prop where
  each : ∀ (i : Nat) (y : Xs), ys[i]? = some y → y.num < n ∧ 1 ≤ y.at_ ∧ y.at_ ≤ 1099511627776 ∧ y.len ≤ 2304
  rise : ∀ (i : Nat) (y z : Xs), ys[i]? = some y → ys[i + 1]? = some z → y.num < z.num

set_option maxRecDepth 100000 in
set_option maxHeartbeats 4000000 in
theorem check_ok {w : World} {g n : Nat} {ao : Option Addr} {c : Nat} {ys : List Xs} (hn : w.cell? ⟨g, 0, none⟩ = some (.int .i64 (n : Int))) (hrow : w.ownsRow 0 51 3 (.slice ao ys.length c) ys.length (flatX ys)) (hf : Fit n ys) (hlen : ys.length ≤ 1000) :
    Calls Try.prog 46 #[.pointer (some ⟨g, 0, none⟩), .slice ao ys.length c] w fun e w' => e = .returned (.int .i64 0) ∧ Below w.heap.size w w' := by
  have HR := hid hrow
  have HF := hid hf
  have HL := hid hlen
  obtain ⟨yl, hyl⟩ : ∃ yl, Hid (yl = ys.length) := ⟨_, hid rfl⟩
  rw [← hyl.out]
  have HB : Hid (Below w.heap.size w w) := hid (Below.refl _ _)
  have hgw := lt_of_cell hn
  have HN := hid hn
  clear hrow hf hlen hn
  go_enter Try.func46, Try.ntmps46
  go_wp2
  go_loopw [5, 7, 10, 11, 12, 13, 14, 15, 16, 17, 18, 19, 20, 21, 22, 23, 24, 25, 26, 27, 28, 29, 30, 31, 32, 33, 34, 35, 36, 37] (fun p5 p7 p10 p11 p12 p13 p14 p15 p16 p17 p18 p19 p20 p21 p22 p23 p24 p25 p26 p27 p28 p29 p30 p31 p32 p33 p34 p35 p36 p37 wr => ∃ (i : Nat) (L : Int), p10 = .int .i64 i ∧ p5 = .int .i64 L ∧ i ≤ yl ∧ Hid (∀ y, ys[i]? = some y → L < y.num) ∧ Hid (Below w.heap.size w wr))
    (fun p5 p7 p10 p11 p12 p13 p14 p15 p16 p17 p18 p19 p20 p21 p22 p23 p24 p25 p26 p27 p28 p29 p30 p31 p32 p33 p34 p35 p36 p37 _ => match p10 with | .int _ i => (yl - i).toNat | _ => 0)
  case atStart => exact ⟨0, -1, rfl, rfl, by omega, hid (fun y _ => by omega), HB⟩
  case round =>
    obtain ⟨i, L, rfl, rfl, hi, hL, hbw⟩ := hrel
    by_cases hc : (i : Int) < (yl : Int)
    · have hii : i < ys.length := by rw [← hyl.out]; omega
      obtain ⟨y, hy⟩ : ∃ y, ys[i]? = some y := ⟨_, List.getElem?_eq_getElem hii⟩
      obtain ⟨gr, rfl, hgr, c0, c1, c2⟩ := row_at HR.out hy
      obtain ⟨f1, f2, f3, f4⟩ := HF.out.each i y hy
      have c0 := cell_under hbw.out hgr c0
      have c1 := cell_under hbw.out hgr c1
      have c2 := cell_under hbw.out hgr c2
      have hgr2 : gr < wr.heap.size := Nat.lt_of_lt_of_le hgr hbw.out.size
      have H1 := hid (has_any (w := wr.alloc (.cells #[.int .i64 (y.num : Int), .int .i64 (y.at_ : Int), .slice y.ao y.len y.cap] 51)) (y.num : Int) (cell_under (ba wr _) (Nat.lt_of_lt_of_le hgw hbw.out.size) (cell_under hbw.out hgw HN.out)))
      rw [show decide (0 ≤ (y.num : Int) ∧ (y.num : Int) < n) = true by simp; omega] at H1
      have H2 := hid (isStamp_any (w := wr.alloc (.cells #[.int .i64 (y.num : Int), .int .i64 (y.at_ : Int), .slice y.ao y.len y.cap] 51)) (y.at_ : Int))
      rw [show decide (1 ≤ (y.at_ : Int) ∧ (y.at_ : Int) ≤ 1099511627776) = true by simp; omega] at H2
      have d1 : ¬ (y.num : Int) ≤ L := by have := hL.out y hy; omega
      have d2 : ¬ (2304 : Int) < (y.len : Int) := by omega
      have wi : IntKind.i64.wrap ((i : Int) + 1) = ((i + 1 : Nat) : Int) := by have := HL.out; rw [IntKind.wrap_i64]; omega
      have NX : Hid (∀ z, ys[i + 1]? = some z → (y.num : Int) < z.num) := hid (fun z hz => by have := HF.out.rise i y z hy hz; omega)
      have NB : Hid (Below w.heap.size w (wr.alloc (.cells #[.int .i64 (y.num : Int), .int .i64 (y.at_ : Int), .slice y.ao y.len y.cap] 51))) := hid (hbw.out.trans ((ba wr _).mono hbw.out.size))
      clear hL hbw HB hgr f1 f2 f3 f4 hy hii
      go_wp2_with (first | (go_at_call 33; refine H1.out.mono ?_; rintro e w' ⟨rfl, rfl⟩) | (go_at_call 34; refine H2.out.mono ?_; rintro e w' ⟨rfl, rfl⟩))
      go_roundw
      case rel => exact ⟨i + 1, y.num, rfl, rfl, by omega, NX, NB⟩
      case measure => simp only; omega
    · have hbw := hbw
      clear hL HB
      go_wp2
      go_ret
      exact ⟨rfl, hbw.out⟩

/-- Sheets laid in. -/
def applyS (S : Sheets) (ys : List Xs) : Sheets := ys.foldl (fun S y => setS S y.num (y.at_, y.bs)) S

set_option maxRecDepth 100000 in
set_option maxHeartbeats 4000000 in
theorem Apply_ok {w : World} {g n lv : Nat} {ps : List Nat} {N : Nodes} {P : Pool} {cs : List Comp} {S : Sheets} {ao : Option Addr} {c : Nat} {ys : List Xs} (hA : All (poolC P :: blkC g (bookL n lv ps) 70 :: cs) w) (hB : Bk P n lv ps N S) (hrow : rowC 51 3 (.slice ao ys.length c) ys.length (flatX ys) ∈ cs) (hd : ∀ y ∈ ys, datC y ∈ cs) (hf : Fit n ys) (hlen : ys.length ≤ 1000) :
    Calls Try.prog 19 #[.pointer (some ⟨g, 0, none⟩), .slice ao ys.length c] w fun e w' => e = .returned (.int .i64 0) ∧ Has P g n cs (applyS S ys) w' := by
  have hg : w.heap[g]? = some (.cells (bookL n lv ps).toArray 70 (0, 0)) := hA.blk (by simp)
  have hr0 : w.ownsRow 0 51 3 (.slice ao ys.length c) ys.length (flatX ys) := (hA.mem (c := rowC 51 3 (.slice ao ys.length c) ys.length (flatX ys)) (by simp [hrow])).2.1
  have CK := hid (check_ok (g := g) (n := n) (by rw [cell_at hg]; rfl) hr0 hf hlen)
  have H0 := hid (fun w' (hb : Below w.heap.size w w') => (⟨P, lv, ps, N, hA.later hb, hB, fun x hx => hx⟩ : Has P g n cs (applyS S (ys.take 0)) w'))
  have HF := hid hf
  have HR := hid hrow
  have HD := hid hd
  have HL := hid hlen
  obtain ⟨yl, hyl⟩ : ∃ yl, Hid (yl = ys.length) := ⟨_, hid rfl⟩
  rw [← hyl.out] at CK ⊢
  clear hA hB hrow hd hf hg hr0 hlen
  go_enter Try.func19, Try.ntmps19
  go_wp2_with (go_at_call 46; refine CK.out.mono ?_; rintro e w1 ⟨rfl, hb1⟩)
  have H0 := hid (H0.out w1 hb1)
  clear CK hb1
  go_loopw [7, 16, 17, 18, 19, 20, 21, 22, 23, 24, 25, 26, 27, 28] (fun p7 p16 p17 p18 p19 p20 p21 p22 p23 p24 p25 p26 p27 p28 wr => ∃ i : Nat, p16 = .int .i64 i ∧ i ≤ yl ∧ Hid (Has P g n cs (applyS S (ys.take i)) wr))
    (fun p7 p16 p17 p18 p19 p20 p21 p22 p23 p24 p25 p26 p27 p28 _ => match p16 with | .int _ i => (yl - i).toNat | _ => 0)
  case atStart => exact ⟨0, rfl, by omega, H0⟩
  case round =>
    obtain ⟨i, rfl, hi, hH⟩ := hrel
    by_cases hc : (i : Int) < (yl : Int)
    · have hii : i < ys.length := by rw [← hyl.out]; omega
      obtain ⟨y, hy⟩ : ∃ y, ys[i]? = some y := ⟨_, List.getElem?_eq_getElem hii⟩
      obtain ⟨Q, lv1, ps1, N1, A1, B1, S1⟩ := hH.out
      have hr1 : wr.ownsRow 0 51 3 (.slice ao ys.length c) ys.length (flatX ys) := (A1.mem (c := rowC 51 3 (.slice ao ys.length c) ys.length (flatX ys)) (by simp [HR.out])).2.1
      obtain ⟨gr, rfl, hgr, c0, c1, c2⟩ := row_at hr1 hy
      obtain ⟨f1, f2, f3, f4⟩ := HF.out.each i y hy
      have hdat : wr.ownsRow 0 5 1 y.v y.bs.length (cellsB y.bs) := (A1.mem (c := datC y) (by simp [HD.out y (List.mem_of_getElem? hy)])).2.1
      have hrd := Reads.of_owns hdat
      have hlb : y.len = y.bs.length := by
        obtain ⟨a', c', e'⟩ := owns_form hdat
        simp only [Xs.v, Value.slice.injEq] at e'
        exact e'.2.1
      have hlv := B1.lv64
      have hnl := B1.nlv
      have PP := hid ((set_all (num := y.num) (a := y.at_) (A1.alloc (.cells #[.int .i64 (y.num : Int), .int .i64 (y.at_ : Int), .slice y.ao y.len y.cap] 51)) B1.tr hlv (by omega) B1.ord (hrd.below (ba wr _)) (by omega)).mono (fun e w' (hq : _ ∧ _) => (⟨hq.1, by
        obtain ⟨Q2, lv2, ps2, N2, A2, B2, S2⟩ := hq.2.has B1 f1 f3 (by omega)
        have e1 : setS (applyS S (ys.take i)) y.num (y.at_, y.bs) = applyS S (ys.take (i + 1)) := by
          rw [List.take_add_one, hy]
          simp [applyS]
        rw [e1] at B2
        exact hid ⟨Q2, lv2, ps2, N2, A2, B2, fun x hx => S2 x (S1 x hx)⟩⟩ : (∃ v, e = .returned v) ∧ Hid (Has P g n cs (applyS S (ys.take (i + 1))) w'))))
      have wi : IntKind.i64.wrap ((i : Int) + 1) = ((i + 1 : Nat) : Int) := by have := HL.out; rw [IntKind.wrap_i64]; omega
      simp only [Xs.v] at PP
      clear A1 B1 hH H0 S1 hr1 f1 f2 f3 f4 hdat hrd hlb hlv hnl hy hii
      go_wp2_with (go_at_call 37; refine PP.out.mono ?_; rintro e w4 ⟨⟨v4, rfl⟩, h4⟩)
      go_roundw
      case rel => exact ⟨i + 1, rfl, by omega, h4⟩
      case measure => simp only; omega
    · have ei : Hid (i = ys.length) := hid (by have := hyl.out; omega)
      have FIN : Hid (Has P g n cs (applyS S ys) wr) := hid (by have := hH.out; rw [ei.out, List.take_length] at this; exact this)
      clear hH H0 ei
      go_wp2
      go_ret
      exact ⟨rfl, FIN.out⟩

end Go.Proofs.Ytaomhahmpbfjhaa

import Derived.Test.YtaomhahmpbfjhaaCarry
namespace Go.Proofs.Ytaomhahmpbfjhaa
open Go.RowKit
set_option linter.unusedVariables false

theorem differ_at {l t : List UInt8} (hl : l.length = t.length) (h : l ≠ t) : ∃ k, k < l.length ∧ l.getD k 0 ≠ t.getD k 0 := by
  apply Classical.byContradiction
  intro hn
  apply h
  apply List.ext_getElem hl
  intro i h1 h2
  apply Classical.byContradiction
  intro hne
  exact hn ⟨i, h1, by simpa [List.getD, List.getElem?_eq_getElem h1, List.getElem?_eq_getElem h2] using hne⟩

set_option maxHeartbeats 1600000 in
set_option maxRecDepth 1000000 in
/-- The document's Same. -/
theorem Same_any {w : World} {s t : Value} {l m : List UInt8} (hs : Reads w s l) (ht : Reads w t m) (hl : l.length ≤ 140737488355328) (hm : m.length ≤ 140737488355328) :
    Calls Try.prog 22 #[s, t] w fun e w' => e = .returned (.bool (decide (l = m))) ∧ ∃ q, w' = w.drewN q := by
  by_cases heq : l = m
  · subst heq
    refine (same_eq hs ht hl).mono ?_
    rintro e w' ⟨rfl, hq⟩
    exact ⟨by simp, hq⟩
  rw [show decide (l = m) = false by simpa using heq]
  obtain ⟨ao, c, hf⟩ := hs.form
  obtain ⟨ao', c', hf'⟩ := ht.form
  subst hf hf'
  have HS := hid hs
  have HT := hid ht
  clear hs ht
  by_cases hlm : l.length = m.length
  · obtain ⟨kd, hkd, hdf⟩ := differ_at hlm heq
    have HD := hid (show kd < l.length ∧ l.getD kd 0 ≠ m.getD kd 0 from ⟨hkd, hdf⟩)
    have hne : ((l.length : Int) != (m.length : Int)) = false := by simp [hlm]
    have hlm' := hid hlm
    clear heq hkd hdf hlm
    go_enter Try.func22, Try.ntmps22
    go_wp2
    go_loopw [5, 13] (fun _ iv wr => ∃ (k q : Nat), k ≤ kd ∧ iv = .int .i64 (k : Int) ∧ w.drewN q = wr) (fun _ iv _ => l.length - (intOf iv).toNat)
    case atStart => exact ⟨0, 0, by omega, rfl, rfl⟩
    case round =>
      obtain ⟨k, q, hk, rfl, rfl⟩ := hrel
      have hlt : k < l.length := by have := HD.out.1; omega
      have hltm : k < m.length := by have := hlm'.out; omega
      obtain ⟨g, o, rfl, h1⟩ := HS.out.at_u8 k hlt
      obtain ⟨g', o', rfl, h2⟩ := HT.out.at_u8 k hltm
      by_cases hxy : (l.getD k 0).toNat = (m.getD k 0).toNat
      · have hkk : Hid (k < kd) := hid (by
          rcases Nat.lt_or_ge k kd with h | h
          · exact h
          · exfalso
            have e : k = kd := by omega
            subst e
            exact HD.out.2 (UInt8.toNat_inj.1 hxy))
        rw [← hxy] at h2
        generalize (l.getD k 0).toNat = x at *
        have hb : ((x : Int) != (x : Int)) = false := by simp
        clear hxy
        go_wp2
        go_region
        go_wp2
        go_roundw
        case rel => exact ⟨k + 1, q + 1, by have := hkk.out; omega, by go_num, by rfl⟩
        case measure => simp [intOf]; omega
      · generalize (l.getD k 0).toNat = x at *
        generalize (m.getD k 0).toNat = y at *
        have hb : ((x : Int) != (y : Int)) = true := by simp; omega
        have hxy' := hid hxy
        clear hxy
        go_wp2
        go_region
        go_wp2
        go_ret
        exact ⟨rfl, q + 1, rfl⟩
  · have hne : ((l.length : Int) != (m.length : Int)) = true := by simp; omega
    generalize l.length = l1 at *
    generalize m.length = m1 at *
    clear HS HT hlm heq
    go_enter Try.func22, Try.ntmps22
    go_wp2
    go_ret
    exact ⟨rfl, 0, rfl⟩

set_option maxHeartbeats 1000000 in
/-- The document's copied. -/
theorem copied_any {w : World} {s : Value} {l : List UInt8} (hs : Reads w s l) (hl : l.length ≤ 140737488355328) : Calls Try.prog 38 #[s] w fun e w' => ∃ v, e = .returned v ∧ w'.ownsRow w.heap.size 5 1 v l.length (cellsB l) ∧ Below w.heap.size w w' := by
  obtain ⟨ao, c, rfl, hc, hcase⟩ := hs
  obtain ⟨i0, hi, hz0, hz1, hz2⟩ := info_parts Try.info5
  have t36 := Try.underlying36
  have h0 : w.ownsRow w.heap.size 5 1 (.slice none 0 0) 0 [] := ⟨by simp, Or.inl ⟨rfl, rfl⟩⟩
  cases ao with
  | none =>
    have hl0 : l = [] := by
      rcases hcase with h | ⟨g, o, e, _⟩
      · exact h.1
      · cases e
    have hc0 : c = 0 := by
      rcases hcase with h | ⟨g, o, e, _⟩
      · exact h.2 rfl
      · cases e
    subst hl0
    subst hc0
    go_enter Try.func38, Try.ntmps38
    go_wp2_with (at_builtin; refine wpList_append_own_none rfl (.tmp 4) (.tmp 5) 36 rfl w.heap.size 5 i0 1 Try.underlying36 hi _ _ _ rfl h0 rfl ?_)
    go_ret
    exact ⟨_, rfl, ⟨by simp [cellsB], Or.inl ⟨rfl, rfl⟩⟩, Below.refl _ _⟩
  | some a =>
    have A : Hid (∀ j u, (cellsB l)[j]? = some u → w.cell? (a.add j) = some u) := by
      rcases hcase with h | ⟨g, o, e, _, h⟩
      · exact hid (fun j u hu => by rw [h.1] at hu; simp [cellsB] at hu)
      · cases e
        exact hid (by simpa [Addr.add_lit] using h)
    have L : Hid (l.length ≤ 140737488355328) := hid hl
    have O := cellsB_one l
    obtain ⟨n, hn⟩ : ∃ n, Hid (n = l.length) := ⟨_, hid rfl⟩
    have Q : Hid ((cellsB l).length = n) := hid (by rw [hn.out]; exact cellsB_length l)
    have L2 : Hid (n ≤ 140737488355328) := hid (by rw [hn.out]; exact L.out)
    rw [← hn.out]
    generalize cellsB l = xs at *
    clear hcase hl hc L hn
    go_enter Try.func38, Try.ntmps38
    go_wp2_with (at_builtin; refine wpList_append_own _ rfl (.tmp 4) (.tmp 5) 36 rfl w.heap.size 5 i0 (.int .u8 0) 1 1 t36 hi hz0 hz1 hz2 rfl (by decide) _ _ _ rfl h0 a n c xs rfl ?qc1 ?qc2 ?qc3 ?qc4 ?qc5 ?qc6 ?_)
    case qc1 => simp; exact Q.out
    case qc2 => exact A.out
    case qc3 => exact O
    case qc4 => have := L2.out; unfold maxLen; omega
    case qc5 => have := L2.out; omega
    case qc6 => exact Nat.le_refl _
    intro v' w1 hown hgrow hnil
    go_wp2
    go_ret
    refine ⟨v', rfl, ?_, ?_⟩
    · simpa using hown
    · exact (Below.refl _ w).grown hgrow (Nat.le_refl _) (by intro k hk; simp [Value.ownBlock] at hk)

/-- The document's book. -/
def refL (R : Nat) (v : Value) (rs : List Xs) : List Comp := blkC R [v] 72 :: rowC 51 3 v rs.length (flatX rs) :: rs.map datC

/-- Its sheets. -/
structure RS (n : Nat) (rs : List Xs) (S : Sheets) : Prop where
  len : rs.length = n
  each : ∀ (i : Nat) (y : Xs), rs[i]? = some y → y.num = i ∧ (y.at_, y.bs) = S i

set_option maxRecDepth 100000 in
set_option maxHeartbeats 4000000 in
theorem rLast_all {w : World} {R n : Nat} {v : Value} {rs : List Xs} {cs : List Comp} {S : Sheets} (hA : All (refL R v rs ++ cs) w) (hR : RS n rs S) (hn : n ≤ 64) (hcap : ∀ i, (S i).1 ≤ 1099511627776) :
    Calls Try.prog 31 #[.pointer (some ⟨R, 0, none⟩)] w fun e w' => e = .returned (.int .i64 (lastS S n : Int)) ∧ Below w.heap.size w w' := by
  have hb : w.heap[R]? = some (.cells [v].toArray 72 (0, 0)) := hA.blk (by simp [refL])
  have hrow : w.ownsRow 0 51 3 v rs.length (flatX rs) := (hA.mem (c := rowC 51 3 v rs.length (flatX rs)) (by simp [refL])).2.1
  obtain ⟨ao, c, rfl⟩ := owns_form hrow
  have c0 : w.cell? ⟨R, 0, none⟩ = some (.slice ao rs.length c) := by rw [cell_at hb]; rfl
  have HR := hid hrow
  have HS := hid hR
  have HN := hid hn
  obtain ⟨rl, hrl⟩ : ∃ rl, Hid (rl = rs.length) := ⟨_, hid rfl⟩
  rw [← hrl.out] at c0
  have HB : Hid (Below w.heap.size w w) := hid (Below.refl _ _)
  clear hA hR hb hrow hn hcap
  go_enter Try.func31, Try.ntmps31
  go_wp2
  go_loopw [3, 5, 11, 12, 13, 14, 15, 16, 17, 18, 19, 20, 21] (fun p3 p5 p11 p12 p13 p14 p15 p16 p17 p18 p19 p20 p21 wr => ∃ i L : Nat, p11 = .int .i64 i ∧ p3 = .int .i64 L ∧ i ≤ rl ∧ Hid (L = mx S 0 i) ∧ Hid (Below w.heap.size w wr))
    (fun p3 p5 p11 p12 p13 p14 p15 p16 p17 p18 p19 p20 p21 _ => match p11 with | .int _ i => (rl - i).toNat | _ => 0)
  case atStart => exact ⟨0, 0, rfl, rfl, by omega, hid rfl, HB⟩
  case round =>
    obtain ⟨i, L, rfl, rfl, hi, hL, hbw⟩ := hrel
    by_cases hc : (i : Int) < (rl : Int)
    · have hii : i < rs.length := by rw [← hrl.out]; omega
      obtain ⟨y, hy⟩ : ∃ y, rs[i]? = some y := ⟨_, List.getElem?_eq_getElem hii⟩
      obtain ⟨gr, rfl, hgr, c0', c1, c2⟩ := row_at HR.out hy
      have e1 := (HS.out.each i y hy).2
      have c0' := cell_under hbw.out hgr c0'
      have c1 := cell_under hbw.out hgr c1
      have c2 := cell_under hbw.out hgr c2
      have hgr2 : gr < wr.heap.size := Nat.lt_of_lt_of_le hgr hbw.out.size
      have wi : IntKind.i64.wrap ((i : Int) + 1) = ((i + 1 : Nat) : Int) := by have := HS.out.len; have := HN.out; rw [IntKind.wrap_i64]; omega
      have NB : Hid (Below w.heap.size w (wr.alloc (.cells #[.int .i64 (y.num : Int), .int .i64 (y.at_ : Int), .slice y.ao y.len y.cap] 51))) := hid (hbw.out.trans ((ba wr _).mono hbw.out.size))
      have e2 : (S i).1 = y.at_ := by rw [← e1]
      have hmx : mx S 0 (i + 1) = max (mx S 0 i) y.at_ := by rw [mx, Nat.zero_add, e2]
      by_cases hg : (y.at_ : Int) > (L : Int)
      · have NL : Hid (y.at_ = mx S 0 (i + 1)) := hid (by have := hL.out; rw [hmx]; omega)
        clear hL hbw HB hgr hy hii e1 e2 hmx c0
        go_wp2
        go_roundw
        case rel => exact ⟨i + 1, y.at_, rfl, rfl, by omega, NL, NB⟩
        case measure => simp only; omega
      · have NL : Hid (L = mx S 0 (i + 1)) := hid (by have := hL.out; rw [hmx]; omega)
        clear hL hbw HB hgr hy hii e1 e2 hmx c0
        go_wp2
        go_roundw
        case rel => exact ⟨i + 1, L, rfl, rfl, by omega, NL, NB⟩
        case measure => simp only; omega
    · have FIN : Hid (L = lastS S n) := hid (by have h1 := hL.out; have h2 := hrl.out; have h3 := HS.out.len; rw [h1]; unfold lastS; congr 1; omega)
      have hbw := hbw
      clear hL HB c0
      go_wp2
      go_ret
      exact ⟨by rw [← FIN.out]; rfl, hbw.out⟩

/-- A sheet that was never written. -/
def zeroX (i : Nat) : Xs := ⟨i, 0, none, 0, 0, []⟩
theorem All.zeros {cs : List Comp} {w : World} (h : All cs w) : ∀ l : List Nat, All ((l.map zeroX).map datC ++ cs) w
  | [] => h
  | i :: l => (All.zeros h l).addRow0 (e := 5) (size := 1)

theorem RS.zero (n : Nat) : RS n ((List.range n).map zeroX) noS :=
  ⟨by simp, fun i y hy => by
    simp only [List.getElem?_map] at hy
    by_cases hi : i < n
    · simp [hi] at hy
      subst hy
      exact ⟨rfl, rfl⟩
    · simp [hi] at hy⟩

set_option maxRecDepth 100000 in
set_option maxHeartbeats 4000000 in
theorem rNew_all {w : World} {cs : List Comp} {n : Nat} (hA : All cs w) (h1 : 1 ≤ n) (h2 : n ≤ 64) :
    Calls Try.prog 8 #[.int .i64 (n : Int)] w fun e w' => ∃ R v, e = .returned (.tuple #[.pointer (some ⟨R, 0, none⟩), .int .i64 0]) ∧ All (refL R v ((List.range n).map zeroX) ++ cs) w' := by
  have A1 : Hid (∃ v, All (blkC w.heap.size [v] 72 :: rowC 51 3 v 0 (flatX []) :: cs) (w.alloc (.cells #[.slice none 0 0] 72))) := hid ⟨.slice none 0 0, ((hA.addBlk [.slice none 0 0] 72).addRow0 (e := 51) (size := 3)).swap⟩
  have d1 : ¬ (n : Int) < 1 := by omega
  have d2 : ¬ (n : Int) > 64 := by omega
  have HN := hid h2
  obtain ⟨i1, hi1, hz0, hz1, hz2⟩ := info_parts Try.info51
  clear hA h1 h2
  go_enter Try.func8, Try.ntmps8
  go_wp2
  go_loopw [5, 14, 15, 16, 17, 18, 19, 20, 21, 22, 23, 24, 25, 26, 27, 28, 29] (fun p5 p14 p15 p16 p17 p18 p19 p20 p21 p22 p23 p24 p25 p26 p27 p28 p29 wr => ∃ i : Nat, p5 = .int .i64 i ∧ i ≤ n ∧ Hid (∃ v, All (blkC w.heap.size [v] 72 :: rowC 51 3 v i (flatX ((List.range i).map zeroX)) :: cs) wr))
    (fun p5 p14 p15 p16 p17 p18 p19 p20 p21 p22 p23 p24 p25 p26 p27 p28 p29 _ => match p5 with | .int _ i => (n - i).toNat | _ => 0)
  case atStart => exact ⟨0, rfl, by omega, A1⟩
  case round =>
    obtain ⟨i, rfl, hi, hH⟩ := hrel
    by_cases hc : (i : Int) < (n : Int)
    · obtain ⟨v, hA⟩ := hH.out
      have hb : wr.heap[w.heap.size]? = some (.cells [v].toArray 72 (0, 0)) := hA.blk (by simp)
      have hrow0 : wr.ownsRow 0 51 3 v i (flatX ((List.range i).map zeroX)) := (hA.mem (c := rowC 51 3 v i (flatX ((List.range i).map zeroX))) (by simp)).2.1
      obtain ⟨oo, oc, rfl⟩ := owns_form hrow0
      have c0 : wr.cell? ⟨w.heap.size, 0, none⟩ = some (.slice oo i oc) := by rw [cell_at hb]; rfl
      have lB : w.heap.size < wr.heap.size := (Array.getElem?_eq_some_iff.1 hb).1
      have A2 := hid (hA.alloc (.cells #[.int .i64 (i : Int), .int .i64 0, .slice none 0 0] 51))
      have hrow := hid (show (wr.alloc (.cells #[.int .i64 (i : Int), .int .i64 0, .slice none 0 0] 51)).ownsRow 0 51 3 (.slice oo i oc) i (flatX ((List.range i).map zeroX)) from (A2.out.mem (c := rowC 51 3 (.slice oo i oc) i (flatX ((List.range i).map zeroX))) (by simp)).2.1)
      have hcell : Hid (∀ j u, [Value.int .i64 (i : Int), .int .i64 0, .slice none 0 0][j]? = some u → (wr.alloc (.cells #[.int .i64 (i : Int), .int .i64 0, .slice none 0 0] 51)).cell? ((⟨wr.heap.size, 0, none⟩ : Addr).add j) = some u) := hid (fun j u hu => by
        rw [Addr.add_lit, cell_at (heap_alloc_new wr _)]
        simpa using hu)
      have hone : ∀ u ∈ [Value.int .i64 (i : Int), .int .i64 0, .slice none 0 0], u.oneCell' = true := fun u hu => by
        simp only [List.mem_cons, List.not_mem_nil, or_false] at hu
        rcases hu with rfl | rfl | rfl <;> rfl
      have HO := hid hone
      have wi : IntKind.i64.wrap ((i : Int) + 1) = ((i + 1 : Nat) : Int) := by have := HN.out; rw [IntKind.wrap_i64]; omega
      have hi64 : Hid (i < 64) := hid (by have := HN.out; omega)
      have KEY : Hid (∀ (v' : Value) (w3 : World), w3.ownsRow 0 51 3 v' (i + 1) (flatX ((List.range i).map zeroX) ++ [.int .i64 (i : Int), .int .i64 0, .slice none 0 0]) → (wr.alloc (.cells #[.int .i64 (i : Int), .int .i64 0, .slice none 0 0] 51)).grownBy w3 (Value.slice oo i oc).ownBlock → (v'.ownBlock = (Value.slice oo i oc).ownBlock ∨ v'.ownBlock = some (wr.alloc (.cells #[.int .i64 (i : Int), .int .i64 0, .slice none 0 0] 51)).heap.size) →
          ∃ o2 c2, v' = .slice o2 (i + 1) c2 ∧ w3.cell? ⟨w.heap.size, 0, none⟩ = some (.slice oo i oc) ∧ w3.frozen? ⟨w.heap.size, 0, none⟩ = false ∧ Hid (∃ v, All (blkC w.heap.size [v] 72 :: rowC 51 3 v (i + 1) (flatX ((List.range (i + 1)).map zeroX)) :: cs) (w3.setCell ⟨w.heap.size, 0, none⟩ v'))) := hid (by
        intro v' w3 hown hgr hat
        obtain ⟨o2, c2, hv'⟩ := owns_form hown
        have A3 := (A2.out.swap).rowGrow hown hgr hat
        have e1 : w3.heap[w.heap.size]? = some (.cells [.slice oo i oc].toArray 72 (0, 0)) := A3.blk (by simp)
        refine ⟨o2, c2, hv', by rw [cell_at e1]; rfl, free_at e1 0, hid ⟨v', ?_⟩⟩
        have A4 := A3.swap.setBlk 0 v'
        have e2 : flatX ((List.range (i + 1)).map zeroX) = flatX ((List.range i).map zeroX) ++ [.int .i64 (i : Int), .int .i64 0, .slice none 0 0] := by
          rw [List.range_succ, List.map_append, flatX_append]
          rfl
        rw [e2]
        simpa using A4)
      clear hA hb hrow0 hone hH A1
      go_wp2_with (at_builtin; refine wpList_append_own_at _ rfl (.tmp 23) (.tmp 26) 37 rfl 0 51 i1 (.agg #[.int .i64 0, .int .i64 0, .slice none 0 0]) 3 40 Try.underlying37 hi1 hz0 hz1 hz2 rfl (by decide) _ _ _ rfl hrow.out ⟨wr.heap.size, 0, none⟩ 1 1 [.int .i64 (i : Int), .int .i64 0, .slice none 0 0] rfl rfl hcell.out HO.out (by have := hi64.out; unfold maxLen; omega) (by have := hi64.out; omega) (by omega) ?_; intro v' w3 hown hgr hnil hat; obtain ⟨o2, c2, hv2, k1, k2, HF⟩ := KEY.out v' w3 hown hgr hat; subst hv2; clear hown hgr hnil hat)
      go_roundw
      case rel => exact ⟨i + 1, rfl, by omega, HF⟩
      case measure => simp only; omega
    · have ei : Hid (i = n) := hid (by omega)
      obtain ⟨v, hA⟩ := hH.out
      have FIN : Hid (All (refL w.heap.size v ((List.range n).map zeroX) ++ cs) wr) := hid (by
        rw [ei.out] at hA
        have h3 : All ((((List.range n).map zeroX).map datC) ++ (blkC w.heap.size [v] 72 :: rowC 51 3 v n (flatX ((List.range n).map zeroX)) :: cs)) wr := hA.zeros (List.range n)
        refine h3.perm ?_
        simp only [refL, List.cons_append, List.length_map, List.length_range]
        exact List.perm_middle.trans (.cons _ List.perm_middle))
      clear hA hH A1 ei
      go_wp2
      go_ret2
      exact ⟨w.heap.size, rfl, v, FIN.out⟩

end Go.Proofs.Ytaomhahmpbfjhaa

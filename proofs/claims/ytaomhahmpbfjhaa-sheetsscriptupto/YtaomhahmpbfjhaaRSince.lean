import Derived.Test.YtaomhahmpbfjhaaJ11
namespace Go.Proofs.Ytaomhahmpbfjhaa
open Go.RowKit
set_option linter.unusedVariables false

/-- Append in a region that draws its order. -/
theorem step_append_own {P : Program} {w : World} {ops : Array Oper} {o : Oper} {a : Act} {K : Act → World → Prop} {Q : Exit → Act → World → Prop} {E : Prop} (hgd : o.guard = none) (s x : Operand) (t : TypeId)
    (ho : o.op = .call { callee := .builtin .append, args := #[s, x], argTypes := #[t, t] })
    (base : Nat) (e : TypeId) (i : TypeInfo) (z : Value) (size bytes : Nat) (ht : P.underlying t = some (.slice e)) (hi : P.info? e = some i) (hz : i.zero = some z)
    (hsize : i.size = size) (hby : i.bytes = bytes) (hzs : z.cells.size = size) (hsz : 0 < size)
    (v : Value) (n : Nat) (xs : List Value) (hs : a.eval s = v) (hown : w.ownsRow base e size v n xs)
    (ad : Addr) (m c : Nat) (news : List Value) (hx : a.eval x = .slice (some ad) m c) (hl : news.length = m * size) (hnews : ∀ j u, news[j]? = some u → w.cell? (ad.add j) = some u) (h1 : ∀ u ∈ news, u.oneCell' = true)
    (h63 : n + m ≤ maxLen) (hbytes : (n + m) * bytes ≤ 140737488355328) (hbase : base ≤ w.heap.size)
    (h : ∀ ao cap w', w'.ownsRow base e size (.slice ao (n + m) cap) (n + m) (xs ++ news) → w.grownBy w' v.ownBlock → ((Value.slice ao (n + m) cap).ownBlock = v.ownBlock ∨ (Value.slice ao (n + m) cap).ownBlock = some w.heap.size) → K (a.put o.dst (.slice ao (n + m) cap)) w') :
    if Region.wanted o (yielded ops a.tmps) = true then Oper.wp P o a w K Q else E := by
  have hw : Region.wanted o (yielded ops a.tmps) = true := by simp [Region.wanted, hgd]
  rw [if_pos hw]
  obtain ⟨v', w', hr, h2, h3, h4, h5⟩ := run_append_own_at (P := P) w base t o.type e i z size bytes ht hi hz hsize hby hzs hsz v n xs hown ad m c news hl hnews h1 h63 hbytes hbase
  obtain ⟨ao, cap, hv⟩ := owns_form h2
  subst hv
  unfold Oper.wp execOp
  simp only [ho, resolve, invoke, builtin, Sem.run_bind, Sem.run_pure, Result.andThen_ok, List.map_toArray, List.map_cons, List.map_nil, hs, hx, hr]
  exact h ao cap w' h2 h3 h5

/-- The parts while the document's Since gathers. -/
def gathL (v : Value) (zs : List Xs) (rest : List Comp) : List Comp := rowC 51 3 v zs.length (flatX zs) :: (zs.map datC ++ rest)

/-- One more is gathered. -/
theorem gath_step {w : World} {oo : Option Addr} {oc : Nat} {zs : List Xs} {rest : List Comp} {bx : Nat} {y : Xs} (hA : All (gathL (.slice oo zs.length oc) zs rest) w) (hy : Reads w (.slice y.ao y.len y.cap) y.bs) (hl : y.bs.length ≤ 2304) (hzl : zs.length < 64)
    (h0 : w.cell? ⟨bx, 0, none⟩ = some (.int .i64 (y.num : Int))) (h1 : w.cell? ⟨bx, 1, none⟩ = some (.int .i64 (y.at_ : Int))) :
    Calls Try.prog 38 #[.slice y.ao y.len y.cap] w.drew fun e w3 => ∃ o3 c3, e = .returned (.slice o3 y.bs.length c3) ∧ w3.cell? ⟨bx, 0, none⟩ = some (.int .i64 (y.num : Int)) ∧ w3.cell? ⟨bx, 1, none⟩ = some (.int .i64 (y.at_ : Int)) ∧
      Hid ((w3.alloc (.cells #[.int .i64 (y.num : Int), .int .i64 (y.at_ : Int), .slice o3 y.bs.length c3] 51)).ownsRow 0 51 3 (.slice oo zs.length oc) zs.length (flatX zs)) ∧
      Hid (∀ j u, [.int .i64 (y.num : Int), .int .i64 (y.at_ : Int), .slice o3 y.bs.length c3][j]? = some u → (w3.alloc (.cells #[.int .i64 (y.num : Int), .int .i64 (y.at_ : Int), .slice o3 y.bs.length c3] 51)).cell? ((⟨w3.heap.size, 0, none⟩ : Addr).add j) = some u) ∧
      Hid (∀ ao' cap' w4, w4.ownsRow 0 51 3 (.slice ao' (zs.length + 1) cap') (zs.length + 1) (flatX zs ++ [.int .i64 (y.num : Int), .int .i64 (y.at_ : Int), .slice o3 y.bs.length c3]) → (w3.alloc (.cells #[.int .i64 (y.num : Int), .int .i64 (y.at_ : Int), .slice o3 y.bs.length c3] 51)).grownBy w4 (Value.slice oo zs.length oc).ownBlock → ((Value.slice ao' (zs.length + 1) cap').ownBlock = (Value.slice oo zs.length oc).ownBlock ∨ (Value.slice ao' (zs.length + 1) cap').ownBlock = some (w3.alloc (.cells #[.int .i64 (y.num : Int), .int .i64 (y.at_ : Int), .slice o3 y.bs.length c3] 51)).heap.size) →
        All (gathL (.slice ao' (zs.length + 1) cap') (zs ++ [⟨y.num, y.at_, o3, y.bs.length, c3, y.bs⟩]) rest) w4) := by
  refine (copied_any hy.drew (by omega)).mono (fun e w3 hq => ?_)
  obtain ⟨v3, rfl, ho3, hb3⟩ := hq
  obtain ⟨o3, c3, rfl⟩ := owns_form ho3
  have A3 : All (datC ⟨y.num, y.at_, o3, y.bs.length, c3, y.bs⟩ :: gathL (.slice oo zs.length oc) zs rest) w3 := by
    refine hA.drew.add (Fr.below hb3) (rowC_good _ _ _ _ _) (owns_zero ho3) (fun k hk => ?_)
    have hk' : (Value.slice o3 y.bs.length c3).ownBlock = some k := by simpa [datC, rowC, Xs.v] using hk
    exact World.ownsRow.lt ho3 k hk'
  have A4 := A3.alloc (.cells #[.int .i64 (y.num : Int), .int .i64 (y.at_ : Int), .slice o3 y.bs.length c3] 51)
  refine ⟨o3, c3, rfl, cell_under hb3 (lt_of_cell h0) h0, cell_under hb3 (lt_of_cell h1) h1, hid ?_, hid (fun j u hu => ?_), hid (fun ao' cap' w4 hown hgr hat => ?_)⟩
  · exact (A4.mem (c := rowC 51 3 (.slice oo zs.length oc) zs.length (flatX zs)) (by simp [gathL])).2.1
  · rw [Addr.add_lit, cell_at (heap_alloc_new w3 _)]
    simpa using hu
  · have A5 := A4.swap.rowGrow hown hgr hat
    have e1 : flatX (zs ++ [⟨y.num, y.at_, o3, y.bs.length, c3, y.bs⟩]) = flatX zs ++ [.int .i64 (y.num : Int), .int .i64 (y.at_ : Int), .slice o3 y.bs.length c3] := by rw [flatX_append]; rfl
    simp only [gathL, e1, List.length_append, List.length_singleton, List.map_append, List.map_cons, List.map_nil, List.append_assoc]
    refine A5.perm (.cons _ ?_)
    exact List.perm_middle.symm

set_option maxRecDepth 100000 in
set_option maxHeartbeats 4000000 in
theorem rSince_all {w : World} {R n : Nat} {v : Value} {rs : List Xs} {cs : List Comp} {S : Sheets} {at_ : Int} (hA : All (refL R v rs ++ cs) w) (hR : RS n rs S) (hn : n ≤ 64) (hcap : ∀ i, (S i).2.length ≤ 2304) :
    Calls Try.prog 15 #[.pointer (some ⟨R, 0, none⟩), .int .i64 at_] w fun e w' => ∃ ao c zs, e = .returned (.slice ao zs.length c) ∧ zs.map Xs.key = newS S at_.toNat (List.range n) ∧ All (gathL (.slice ao zs.length c) zs (refL R v rs ++ cs)) w' := by
  have hb : w.heap[R]? = some (.cells [v].toArray 72 (0, 0)) := hA.blk (by simp [refL])
  have hrow : w.ownsRow 0 51 3 v rs.length (flatX rs) := (hA.mem (c := rowC 51 3 v rs.length (flatX rs)) (by simp [refL])).2.1
  obtain ⟨ro, rc, rfl⟩ := owns_form hrow
  obtain ⟨a, ha⟩ : ∃ a : Nat, Hid (a = at_.toNat) := ⟨_, hid rfl⟩
  rw [← ha.out]
  obtain ⟨rl, hrl⟩ : ∃ rl, Hid (rl = rs.length) := ⟨_, hid rfl⟩
  have c0 : w.cell? ⟨R, 0, none⟩ = some (.slice ro rl rc) := by rw [cell_at hb, hrl.out]; rfl
  have HB0 : Hid (∃ oo zs oc, Value.slice none 0 0 = .slice oo (List.length zs) oc ∧ zs.map Xs.key = newS S a (List.range 0) ∧ All (gathL (.slice oo (List.length zs) oc) zs (refL R (.slice ro rs.length rc) rs ++ cs)) w) := hid ⟨none, [], 0, rfl, rfl, hA.addRow0 (e := 51) (size := 3)⟩
  have HS := hid hR
  have HN := hid hn
  have HC := hid hcap
  obtain ⟨i1, hi1, hz0, hz1, hz2⟩ := info_parts Try.info51
  clear hA hR hb hrow hn hcap
  have HB0 : Hid (∃ zs, 0 = List.length zs ∧ zs.map Xs.key = newS S a (List.range 0) ∧ All (gathL (.slice none 0 0) zs (refL R (.slice ro rs.length rc) rs ++ cs)) w) := hid (by
    obtain ⟨oo, zs, oc, e, hk, hA⟩ := HB0.out
    simp only [Value.slice.injEq] at e
    obtain ⟨rfl, e2, rfl⟩ := e
    rw [← e2] at hA
    exact ⟨zs, e2, hk, hA⟩)
  by_cases hneg : at_ < 0
  · have ha0 : Hid (a = 0) := hid (by rw [ha.out]; omega)
    clear ha
    go_enter Try.func15, Try.ntmps15
    go_wp2
    go_loopw [5, 7, 15, 16, 17, 18, 19, 20, 21, 22, 23, 24, 25, 26, 27, 28, 29, 30, 31, 32, 33, 34] (fun p5 p7 p15 p16 p17 p18 p19 p20 p21 p22 p23 p24 p25 p26 p27 p28 p29 p30 p31 p32 p33 p34 wr => ∃ i : Nat, p15 = .int .i64 i ∧ i ≤ rl ∧ (∃ oo k oc, p5 = .slice oo k oc ∧ Hid (∃ zs, k = List.length zs ∧ zs.map Xs.key = newS S a (List.range i) ∧ All (gathL (.slice oo k oc) zs (refL R (.slice ro rs.length rc) rs ++ cs)) wr)))
      (fun p5 p7 p15 p16 p17 p18 p19 p20 p21 p22 p23 p24 p25 p26 p27 p28 p29 p30 p31 p32 p33 p34 _ => match p15 with | .int _ i => (rl - i).toNat | _ => 0)
    case atStart => exact ⟨0, rfl, by omega, none, 0, 0, rfl, HB0⟩
    case round =>
      obtain ⟨i, rfl, hi, oo, k, oc, rfl, hG⟩ := hrel
      by_cases hc : (i : Int) < (rl : Int)
      · obtain ⟨zs, rfl, hk, hA⟩ := hG.out
        have hii : i < rs.length := by rw [← hrl.out]; omega
        obtain ⟨y, hy⟩ : ∃ y, rs[i]? = some y := ⟨_, List.getElem?_eq_getElem hii⟩
        have hrow1 : wr.ownsRow 0 51 3 (.slice ro rs.length rc) rs.length (flatX rs) := (hA.mem (c := rowC 51 3 (.slice ro rs.length rc) rs.length (flatX rs)) (by simp [gathL, refL])).2.1
        obtain ⟨gr, rfl, hgr, x0, x1, x2⟩ := row_at hrow1 hy
        have hye := HS.out.each i y hy
        have hyat : (S i).1 = y.at_ := by rw [← hye.2]
        have hybs : (S i).2 = y.bs := by rw [← hye.2]
        have hnum : y.num = i := hye.1
        have hin : i < n := by rw [← HS.out.len]; exact hii
        have wi : IntKind.i64.wrap ((i : Int) + 1) = ((i + 1 : Nat) : Int) := by have := HN.out; rw [IntKind.wrap_i64]; omega
        have hzl : zs.length ≤ i := by
          have h1 : zs.length = (newS S a (List.range i)).length := by rw [← hk]; simp
          have h2 : (newS S a (List.range i)).length ≤ (List.range i).length := List.length_filterMap_le _ _
          simp at h2
          omega
        have hn64 := HN.out
        have ydat : datC y ∈ gathL (.slice oo zs.length oc) zs (refL R (.slice (some ⟨gr, 0, none⟩) rs.length rc) rs ++ cs) := by
          simp only [gathL, refL, List.cons_append, List.mem_cons, List.mem_append, List.mem_map]
          exact .inr (.inr (.inr (.inr (.inl ⟨y, List.mem_of_getElem? hy, rfl⟩))))
        have hA2 := hA.alloc (.cells #[.int .i64 (y.num : Int), .int .i64 (y.at_ : Int), .slice y.ao y.len y.cap] 51)
        have hrd : Reads (wr.alloc (.cells #[.int .i64 (y.num : Int), .int .i64 (y.at_ : Int), .slice y.ao y.len y.cap] 51)) (.slice y.ao y.len y.cap) y.bs := Reads.of_owns (show (wr.alloc (.cells #[.int .i64 (y.num : Int), .int .i64 (y.at_ : Int), .slice y.ao y.len y.cap] 51)).ownsRow 0 5 1 y.v y.bs.length (cellsB y.bs) from (hA2.mem ydat).2.1)
        by_cases hg : (y.at_ : Int) > 0
        · have hlt : a < (S i).1 := by have h1 := ha0.out; omega
          have hks : newS S a (List.range (i + 1)) = newS S a (List.range i) ++ [(i, S i)] := by
            rw [List.range_succ, newS_append]
            congr 1
            simp [newS, hlt]
          have ST := hid (gath_step (bx := wr.heap.size) hA2 hrd (by rw [← hybs]; exact HC.out i) (by omega) (by rw [cell_at (heap_alloc_new wr _)]; rfl) (by rw [cell_at (heap_alloc_new wr _)]; rfl))
          have FIN : Hid (∀ ao' cap' w4 o3 c3, All (gathL (.slice ao' (zs.length + 1) cap') (zs ++ [⟨y.num, y.at_, o3, y.bs.length, c3, y.bs⟩]) (refL R (.slice (some ⟨gr, 0, none⟩) rs.length rc) rs ++ cs)) w4 → ∃ zs', zs.length + 1 = List.length zs' ∧ zs'.map Xs.key = newS S a (List.range (i + 1)) ∧ All (gathL (.slice ao' (zs.length + 1) cap') zs' (refL R (.slice (some ⟨gr, 0, none⟩) rs.length rc) rs ++ cs)) w4) := hid (fun ao' cap' w4 o3 c3 h => ⟨_, by simp, by
            rw [hks, List.map_append, hk]
            congr 1
            simp only [List.map_cons, List.map_nil, Xs.key]
            rw [hnum, ← hyat, ← hybs], h⟩)
          have HZ := hid (show zs.length < 64 by omega)
          clear hA hA2 hk hG HB0 hrow1 hy hii hye hyat hybs hnum hin hzl hn64 ydat hrd hlt hks c0
          generalize zs.length = zl at *
          generalize y.bs.length = yl at *
          go_wp2
          go_region_law (first | (refine step_append_own (by rfl) (.tmp 23) (.tmp 32) 37 (by rfl) 0 51 i1 (.agg #[.int .i64 0, .int .i64 0, .slice none 0 0]) 3 40 Try.underlying37 hi1 hz0 hz1 hz2 rfl (by decide) _ zl (flatX zs) (by rfl) RW.out _ 1 1 _ (by rfl) (by rfl) CL.out (by intro u hu; simp only [List.mem_cons, List.not_mem_nil, or_false] at hu; rcases hu with rfl | rfl | rfl <;> rfl) (by have := HZ.out; unfold maxLen; omega) (by have := HZ.out; omega) (by omega) ?_; intro ao' cap' w4 hown hgr4 hat4; have HF := hid (FIN.out _ _ _ _ _ (KY.out _ _ _ hown hgr4 hat4)); clear hown hgr4 hat4) | (go_simp; go_at_call 38; refine ST.out.mono ?_; rintro e w3 ⟨o3, c3, rfl, z0, z1, RW, CL, KY⟩))
          all_goals
            go_wp2
            go_roundw
            case rel => exact ⟨i + 1, rfl, by omega, ao', zl + 1, cap', rfl, HF⟩
            case measure => simp only; omega
        · have hlt : ¬ a < (S i).1 := by have h1 := ha0.out; omega
          have hks : newS S a (List.range (i + 1)) = newS S a (List.range i) := by
            rw [List.range_succ, newS_append]
            simp [newS, hlt]
          have NX : Hid (∃ zs', zs.length = List.length zs' ∧ zs'.map Xs.key = newS S a (List.range (i + 1)) ∧ All (gathL (.slice oo zs.length oc) zs' (refL R (.slice (some ⟨gr, 0, none⟩) rs.length rc) rs ++ cs)) (wr.alloc (.cells #[.int .i64 (y.num : Int), .int .i64 (y.at_ : Int), .slice y.ao y.len y.cap] 51))) := hid ⟨zs, rfl, by rw [hks]; exact hk, hA2⟩
          clear hA hA2 hk hG HB0 hrow1 hy hii hye hyat hybs hnum hin hzl hn64 ydat hrd hlt hks c0
          generalize zs.length = zl at *
          go_wp2
          go_roundw
          case rel => exact ⟨i + 1, rfl, by omega, oo, zl, oc, rfl, NX⟩
          case measure => simp only; omega
      · have ei : Hid (i = n) := hid (by have := hrl.out; have := HS.out.len; omega)
        obtain ⟨zs, rfl, hk, hA⟩ := hG.out
        rw [ei.out] at hk
        have FIN := hid (show zs.map Xs.key = newS S a (List.range n) ∧ All (gathL (.slice oo zs.length oc) zs (refL R (.slice ro rs.length rc) rs ++ cs)) wr from ⟨hk, hA⟩)
        clear hk hA hG HB0 ei c0
        obtain ⟨zl, hzl⟩ : ∃ zl, Hid (zl = zs.length) := ⟨_, hid rfl⟩
        rw [← hzl.out]
        go_wp2
        go_ret
        exact ⟨oo, oc, zs, by rw [← hzl.out]; rfl, FIN.out.1, FIN.out.2⟩
  · obtain rfl : at_ = (a : Int) := by have := ha.out; omega
    clear ha
    go_enter Try.func15, Try.ntmps15
    go_wp2
    go_loopw [5, 7, 15, 16, 17, 18, 19, 20, 21, 22, 23, 24, 25, 26, 27, 28, 29, 30, 31, 32, 33, 34] (fun p5 p7 p15 p16 p17 p18 p19 p20 p21 p22 p23 p24 p25 p26 p27 p28 p29 p30 p31 p32 p33 p34 wr => ∃ i : Nat, p15 = .int .i64 i ∧ i ≤ rl ∧ (∃ oo k oc, p5 = .slice oo k oc ∧ Hid (∃ zs, k = List.length zs ∧ zs.map Xs.key = newS S a (List.range i) ∧ All (gathL (.slice oo k oc) zs (refL R (.slice ro rs.length rc) rs ++ cs)) wr)))
      (fun p5 p7 p15 p16 p17 p18 p19 p20 p21 p22 p23 p24 p25 p26 p27 p28 p29 p30 p31 p32 p33 p34 _ => match p15 with | .int _ i => (rl - i).toNat | _ => 0)
    case atStart => exact ⟨0, rfl, by omega, none, 0, 0, rfl, HB0⟩
    case round =>
      obtain ⟨i, rfl, hi, oo, k, oc, rfl, hG⟩ := hrel
      by_cases hc : (i : Int) < (rl : Int)
      · obtain ⟨zs, rfl, hk, hA⟩ := hG.out
        have hii : i < rs.length := by rw [← hrl.out]; omega
        obtain ⟨y, hy⟩ : ∃ y, rs[i]? = some y := ⟨_, List.getElem?_eq_getElem hii⟩
        have hrow1 : wr.ownsRow 0 51 3 (.slice ro rs.length rc) rs.length (flatX rs) := (hA.mem (c := rowC 51 3 (.slice ro rs.length rc) rs.length (flatX rs)) (by simp [gathL, refL])).2.1
        obtain ⟨gr, rfl, hgr, x0, x1, x2⟩ := row_at hrow1 hy
        have hye := HS.out.each i y hy
        have hyat : (S i).1 = y.at_ := by rw [← hye.2]
        have hybs : (S i).2 = y.bs := by rw [← hye.2]
        have hnum : y.num = i := hye.1
        have hin : i < n := by rw [← HS.out.len]; exact hii
        have wi : IntKind.i64.wrap ((i : Int) + 1) = ((i + 1 : Nat) : Int) := by have := HN.out; rw [IntKind.wrap_i64]; omega
        have hzl : zs.length ≤ i := by
          have h1 : zs.length = (newS S a (List.range i)).length := by rw [← hk]; simp
          have h2 : (newS S a (List.range i)).length ≤ (List.range i).length := List.length_filterMap_le _ _
          simp at h2
          omega
        have hn64 := HN.out
        have ydat : datC y ∈ gathL (.slice oo zs.length oc) zs (refL R (.slice (some ⟨gr, 0, none⟩) rs.length rc) rs ++ cs) := by
          simp only [gathL, refL, List.cons_append, List.mem_cons, List.mem_append, List.mem_map]
          exact .inr (.inr (.inr (.inr (.inl ⟨y, List.mem_of_getElem? hy, rfl⟩))))
        have hA2 := hA.alloc (.cells #[.int .i64 (y.num : Int), .int .i64 (y.at_ : Int), .slice y.ao y.len y.cap] 51)
        have hrd : Reads (wr.alloc (.cells #[.int .i64 (y.num : Int), .int .i64 (y.at_ : Int), .slice y.ao y.len y.cap] 51)) (.slice y.ao y.len y.cap) y.bs := Reads.of_owns (show (wr.alloc (.cells #[.int .i64 (y.num : Int), .int .i64 (y.at_ : Int), .slice y.ao y.len y.cap] 51)).ownsRow 0 5 1 y.v y.bs.length (cellsB y.bs) from (hA2.mem ydat).2.1)
        by_cases hg : (y.at_ : Int) > (a : Int)
        · have hlt : a < (S i).1 := by omega
          have hks : newS S a (List.range (i + 1)) = newS S a (List.range i) ++ [(i, S i)] := by
            rw [List.range_succ, newS_append]
            congr 1
            simp [newS, hlt]
          have ST := hid (gath_step (bx := wr.heap.size) hA2 hrd (by rw [← hybs]; exact HC.out i) (by omega) (by rw [cell_at (heap_alloc_new wr _)]; rfl) (by rw [cell_at (heap_alloc_new wr _)]; rfl))
          have FIN : Hid (∀ ao' cap' w4 o3 c3, All (gathL (.slice ao' (zs.length + 1) cap') (zs ++ [⟨y.num, y.at_, o3, y.bs.length, c3, y.bs⟩]) (refL R (.slice (some ⟨gr, 0, none⟩) rs.length rc) rs ++ cs)) w4 → ∃ zs', zs.length + 1 = List.length zs' ∧ zs'.map Xs.key = newS S a (List.range (i + 1)) ∧ All (gathL (.slice ao' (zs.length + 1) cap') zs' (refL R (.slice (some ⟨gr, 0, none⟩) rs.length rc) rs ++ cs)) w4) := hid (fun ao' cap' w4 o3 c3 h => ⟨_, by simp, by
            rw [hks, List.map_append, hk]
            congr 1
            simp only [List.map_cons, List.map_nil, Xs.key]
            rw [hnum, ← hyat, ← hybs], h⟩)
          have HZ := hid (show zs.length < 64 by omega)
          clear hA hA2 hk hG HB0 hrow1 hy hii hye hyat hybs hnum hin hzl hn64 ydat hrd hlt hks c0
          generalize zs.length = zl at *
          generalize y.bs.length = yl at *
          go_wp2
          go_region_law (first | (refine step_append_own (by rfl) (.tmp 23) (.tmp 32) 37 (by rfl) 0 51 i1 (.agg #[.int .i64 0, .int .i64 0, .slice none 0 0]) 3 40 Try.underlying37 hi1 hz0 hz1 hz2 rfl (by decide) _ zl (flatX zs) (by rfl) RW.out _ 1 1 _ (by rfl) (by rfl) CL.out (by intro u hu; simp only [List.mem_cons, List.not_mem_nil, or_false] at hu; rcases hu with rfl | rfl | rfl <;> rfl) (by have := HZ.out; unfold maxLen; omega) (by have := HZ.out; omega) (by omega) ?_; intro ao' cap' w4 hown hgr4 hat4; have HF := hid (FIN.out _ _ _ _ _ (KY.out _ _ _ hown hgr4 hat4)); clear hown hgr4 hat4) | (go_simp; go_at_call 38; refine ST.out.mono ?_; rintro e w3 ⟨o3, c3, rfl, z0, z1, RW, CL, KY⟩))
          all_goals
            go_wp2
            go_roundw
            case rel => exact ⟨i + 1, rfl, by omega, ao', zl + 1, cap', rfl, HF⟩
            case measure => simp only; omega
        · have hlt : ¬ a < (S i).1 := by omega
          have hks : newS S a (List.range (i + 1)) = newS S a (List.range i) := by
            rw [List.range_succ, newS_append]
            simp [newS, hlt]
          have NX : Hid (∃ zs', zs.length = List.length zs' ∧ zs'.map Xs.key = newS S a (List.range (i + 1)) ∧ All (gathL (.slice oo zs.length oc) zs' (refL R (.slice (some ⟨gr, 0, none⟩) rs.length rc) rs ++ cs)) (wr.alloc (.cells #[.int .i64 (y.num : Int), .int .i64 (y.at_ : Int), .slice y.ao y.len y.cap] 51))) := hid ⟨zs, rfl, by rw [hks]; exact hk, hA2⟩
          clear hA hA2 hk hG HB0 hrow1 hy hii hye hyat hybs hnum hin hzl hn64 ydat hrd hlt hks c0
          generalize zs.length = zl at *
          go_wp2
          go_roundw
          case rel => exact ⟨i + 1, rfl, by omega, oo, zl, oc, rfl, NX⟩
          case measure => simp only; omega
      · have ei : Hid (i = n) := hid (by have := hrl.out; have := HS.out.len; omega)
        obtain ⟨zs, rfl, hk, hA⟩ := hG.out
        rw [ei.out] at hk
        have FIN := hid (show zs.map Xs.key = newS S a (List.range n) ∧ All (gathL (.slice oo zs.length oc) zs (refL R (.slice ro rs.length rc) rs ++ cs)) wr from ⟨hk, hA⟩)
        clear hk hA hG HB0 ei c0
        obtain ⟨zl, hzl⟩ : ∃ zl, Hid (zl = zs.length) := ⟨_, hid rfl⟩
        rw [← hzl.out]
        go_wp2
        go_ret
        exact ⟨oo, oc, zs, by rw [← hzl.out]; rfl, FIN.out.1, FIN.out.2⟩

end Go.Proofs.Ytaomhahmpbfjhaa

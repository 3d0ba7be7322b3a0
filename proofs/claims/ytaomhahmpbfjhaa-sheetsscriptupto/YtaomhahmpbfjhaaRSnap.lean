import Derived.Test.YtaomhahmpbfjhaaJ18
import Derived.Test.YtaomhahmpbfjhaaJ9
import Derived.Test.YtaomhahmpbfjhaaJ11
namespace Go.Proofs.Ytaomhahmpbfjhaa
open Go.RowKit
set_option linter.unusedVariables false

theorem Xs.one (x : Xs) : ∀ u ∈ x.cells, u.oneCell' = true := by
  intro u hu
  simp only [Xs.cells, List.mem_cons, List.not_mem_nil, or_false] at hu
  rcases hu with rfl | rfl | rfl <;> rfl
/-- One sheet more. -/
theorem app_sheet {W : World} {K : Nat} {x : Xs} {v : Value} {l : List Xs} {cs : List Comp} (A : All (rowC 51 3 v l.length (flatX l) :: cs) W) (hK : W.heap[K]? = some (.cells x.cells.toArray 51 (0, 0))) (hlen : (l.length + 1) * 40 ≤ 140737488355328) :
    ∃ ao c w', (Builtin.append_ #[37, 37] 37 #[v, .slice (some ⟨K, 0, none⟩) 1 1]).run Try.prog W = .ok (.slice ao (l.length + 1) c) w' ∧ All (rowC 51 3 (.slice ao (l.length + 1) c) (l ++ [x]).length (flatX (l ++ [x])) :: cs) w' := by
  obtain ⟨i1, hi1, hz0, hz1, hz2⟩ := info_parts Try.info51
  obtain ⟨v', w', hr, h2, h3, h4, h5⟩ := run_append_own_at (P := Try.prog) W 0 37 37 51 i1 _ 3 40 Try.underlying37 hi1 hz0 hz1 hz2 rfl (by decide) v l.length (flatX l) A.1.2.1 ⟨K, 0, none⟩ 1 1 x.cells rfl
    (fun j u hu => by rw [Addr.add_lit, Nat.zero_add, cell_at hK]; exact (List.getElem?_toArray ..).trans hu) x.one (by unfold maxLen; omega) hlen (by omega)
  obtain ⟨ao, c, rfl⟩ := owns_form h2
  refine ⟨ao, c, w', hr, A.rowGrow (vs' := flatX (l ++ [x])) (n' := (l ++ [x]).length) (by rw [flatX_append, List.length_append, show flatX [x] = x.cells by simp [flatX]]; exact h2) h3 h5⟩
theorem ref_add {R : Nat} {v : Value} {zs : List Xs} {x : Xs} {rest : List Comp} {w : World} {n : Nat} (h : All (blkC R [v] 72 :: rowC 51 3 v n (flatX (zs ++ [x])) :: datC x :: (zs.map datC ++ rest)) w) (hn : n = (zs ++ [x]).length) : All (refL R v (zs ++ [x]) ++ rest) w := by
  subst hn
  refine h.perm ?_
  simp only [refL, List.map_append, List.map_cons, List.map_nil, List.cons_append, List.append_assoc]
  refine .cons _ (.cons _ ?_)
  have := List.perm_middle (a := datC x) (l₁ := zs.map datC) (l₂ := rest)
  simpa using this.symm

set_option maxHeartbeats 800000 in
theorem snap_step {w : World} {R bx : Nat} {oo : Option Addr} {oc : Nat} {zs : List Xs} {rest : List Comp} {y : Xs} (hA : All (refL R (.slice oo zs.length oc) zs ++ rest) w) (hy : Reads w (.slice y.ao y.len y.cap) y.bs) (hl : y.bs.length ≤ 2304) (hzl : zs.length < 64)
    (h0 : w.cell? ⟨bx, 0, none⟩ = some (.int .i64 (y.num : Int))) (h1 : w.cell? ⟨bx, 1, none⟩ = some (.int .i64 (y.at_ : Int))) :
    Calls Try.prog 38 #[.slice y.ao y.len y.cap] w.drew fun e w3 => ∃ o3 c3, e = .returned (.slice o3 y.bs.length c3) ∧ w3.cell? ⟨bx, 0, none⟩ = some (.int .i64 (y.num : Int)) ∧ w3.cell? ⟨bx, 1, none⟩ = some (.int .i64 (y.at_ : Int)) ∧ w3.cell? ⟨R, 0, none⟩ = some (.slice oo zs.length oc) ∧ R < w3.heap.size ∧ bx < w3.heap.size ∧
      (∃ ao' c' w4, (Builtin.append_ #[37, 37] 37 #[.slice oo zs.length oc, .slice (some ⟨w3.heap.size, 0, none⟩) 1 1]).run Try.prog (w3.alloc (.cells #[.int .i64 (y.num : Int), .int .i64 (y.at_ : Int), .slice o3 y.bs.length c3] 51)) = .ok (.slice ao' (zs.length + 1) c') w4 ∧ w4.cell? ⟨R, 0, none⟩ = some (.slice oo zs.length oc) ∧ w4.frozen? ⟨R, 0, none⟩ = false ∧
        Hid (All (refL R (.slice ao' (zs.length + 1) c') (zs ++ [⟨y.num, y.at_, o3, y.bs.length, c3, y.bs⟩]) ++ rest) (w4.setCell ⟨R, 0, none⟩ (.slice ao' (zs.length + 1) c')))) := by
  refine (copied_any hy.drew (by omega)).mono (fun e w3 hq => ?_)
  obtain ⟨v3, rfl, ho3, hb3⟩ := hq
  obtain ⟨o3, c3, rfl⟩ := owns_form ho3
  have A3 : All (datC ⟨y.num, y.at_, o3, y.bs.length, c3, y.bs⟩ :: (refL R (.slice oo zs.length oc) zs ++ rest)) w3 := by
    refine hA.drew.add (Fr.below hb3) (rowC_good _ _ _ _ _) (owns_zero ho3) (fun k hk => ?_)
    have hk' : (Value.slice o3 y.bs.length c3).ownBlock = some k := by simpa [datC, rowC, Xs.v] using hk
    exact World.ownsRow.lt ho3 k hk'
  have A4 : All (rowC 51 3 (.slice oo zs.length oc) zs.length (flatX zs) :: blkC R [.slice oo zs.length oc] 72 :: datC ⟨y.num, y.at_, o3, y.bs.length, c3, y.bs⟩ :: (zs.map datC ++ rest)) w3 := A3.perm (by
    simp only [refL, List.cons_append]
    exact (List.Perm.cons _ (List.Perm.swap _ _ _)).trans ((List.Perm.swap _ _ _).trans (List.Perm.cons _ (List.Perm.swap _ _ _))))
  have hD := A4.tail.1.2.1
  obtain ⟨ao', c', w4, hr, A5⟩ := app_sheet (x := ⟨y.num, y.at_, o3, y.bs.length, c3, y.bs⟩) (A4.alloc (.cells #[.int .i64 (y.num : Int), .int .i64 (y.at_ : Int), .slice o3 y.bs.length c3] 51)) (heap_alloc_new w3 _) (by omega)
  have hD5 := A5.tail.1.2.1
  have e0 := cell_under hb3 (lt_of_cell h0) h0
  refine ⟨o3, c3, rfl, e0, cell_under hb3 (lt_of_cell h1) h1, by rw [cell_at hD]; rfl, (Array.getElem?_eq_some_iff.1 hD).1, lt_of_cell e0, ao', c', w4, hr, by rw [cell_at hD5]; rfl, free_at hD5 0, hid ?_⟩
  exact ref_add (A5.swap.setBlk 0 (.slice ao' (zs.length + 1) c')) (by simp)

set_option maxRecDepth 1000000 in
set_option maxHeartbeats 20000000 in
/-- The document's Snap. -/
theorem rSnap_all {w : World} {R n : Nat} {v : Value} {rs : List Xs} {cs : List Comp} {S : Sheets} (hA : All (refL R v rs ++ cs) w) (hS : RS n rs S) (hn : n ≤ 64) (hcap : ∀ i, (S i).2.length ≤ 2304) :
    Calls Try.prog 52 #[.pointer (some ⟨R, 0, none⟩)] w fun e w' => ∃ R' v' zs, e = .returned (.pointer (some ⟨R', 0, none⟩)) ∧ RS n zs S ∧ All (refL R' v' zs ++ (refL R v rs ++ cs)) w' := by
  obtain ⟨ro, rc, rfl, hR⟩ := RAt.of hA
  have hl := hS.len
  obtain ⟨R', hR'⟩ : ∃ R', Hid (R' = w.heap.size) := ⟨_, hid rfl⟩
  have A0 : Hid (All (refL R' (.slice none 0 0) [] ++ (refL R (.slice ro rs.length rc) rs ++ cs)) (w.alloc (.cells #[.slice none 0 0] 72))) := hid (by
    have h1 := (hA.addRow0 (e := 51) (size := 3)).addBlk [.slice none 0 0] 72
    rw [← hR'.out] at h1
    exact h1)
  have d0 := (hR.later (ba w (.cells #[.slice none 0 0] 72))).c0
  have HR := hid hR
  have HS := hid hS
  have HC := hid hcap
  obtain ⟨rl, hrl⟩ : ∃ rl, Hid (rl = rs.length) := ⟨_, hid rfl⟩
  have hrl64 : rl ≤ 64 := by rw [hrl.out]; omega
  rw [← hrl.out] at d0
  clear hA hR hS hcap hl
  go_enter Try.func52, Try.ntmps52
  go_wp2_with fail
  rw [← hR'.out]
  generalize (w.alloc (.cells #[.slice none 0 0] 72)) = w1 at A0 d0 ⊢
  clear d0 hR'
  go_loopw [13] (fun iv wr => ∃ (i : Nat), i ≤ rl ∧ iv = .int .i64 (i : Int) ∧ Hid (∃ oo oc zs, i = List.length zs ∧ zs.map Xs.key = (rs.take i).map Xs.key ∧ All (refL R' (.slice oo i oc) zs ++ (refL R (.slice ro rs.length rc) rs ++ cs)) wr)) (fun iv _ => rl - (intOf iv).toNat)
  case atStart => exact ⟨0, by omega, rfl, hid ⟨none, 0, [], rfl, by simp, A0.out⟩⟩
  case round =>
    clear A0
    obtain ⟨i, hi, rfl, hG⟩ := hrel
    by_cases hlt : i < rl
    · have l1 : decide ((i : Int) < (rl : Int)) = true := decide_eq_true (by omega)
      have l2 : (i : Int) < (rl : Int) := by omega
      obtain ⟨oo, oc, zs, hz, hk, hA⟩ := hG.out
      have hii : i < rs.length := by rw [← hrl.out]; omega
      obtain ⟨y, hy⟩ : ∃ y, rs[i]? = some y := ⟨_, List.getElem?_eq_getElem hii⟩
      have hrow1 : wr.ownsRow 0 51 3 (.slice ro rs.length rc) rs.length (flatX rs) := (hA.mem (c := rowC 51 3 (.slice ro rs.length rc) rs.length (flatX rs)) (by simp [refL])).2.1
      obtain ⟨gr, rfl, hgr, x0, x1, x2⟩ := row_at hrow1 hy
      have hybs : (S i).2 = y.bs := by rw [← (HS.out.each i y hy).2]
      have ydat : datC y ∈ refL R' (.slice oo i oc) zs ++ (refL R (.slice (some ⟨gr, 0, none⟩) rs.length rc) rs ++ cs) := by
        simp only [refL, List.cons_append, List.mem_cons, List.mem_append, List.mem_map]
        exact .inr (.inr (.inr (.inr (.inr (.inl ⟨y, List.mem_of_getElem? hy, rfl⟩)))))
      have hA2 := hA.alloc (.cells #[.int .i64 (y.num : Int), .int .i64 (y.at_ : Int), .slice y.ao y.len y.cap] 51)
      have hrd : Reads (wr.alloc (.cells #[.int .i64 (y.num : Int), .int .i64 (y.at_ : Int), .slice y.ao y.len y.cap] 51)) (.slice y.ao y.len y.cap) y.bs := Reads.of_owns (show (wr.alloc (.cells #[.int .i64 (y.num : Int), .int .i64 (y.at_ : Int), .slice y.ao y.len y.cap] 51)).ownsRow 0 5 1 y.v y.bs.length (cellsB y.bs) from (hA2.mem ydat).2.1)
      have z0 : (wr.alloc (.cells #[.int .i64 (y.num : Int), .int .i64 (y.at_ : Int), .slice y.ao y.len y.cap] 51)).cell? ⟨wr.heap.size, 0, none⟩ = some (.int .i64 (y.num : Int)) := by rw [cell_at (heap_alloc_new wr _)]; rfl
      have z1 : (wr.alloc (.cells #[.int .i64 (y.num : Int), .int .i64 (y.at_ : Int), .slice y.ao y.len y.cap] 51)).cell? ⟨wr.heap.size, 1, none⟩ = some (.int .i64 (y.at_ : Int)) := by rw [cell_at (heap_alloc_new wr _)]; rfl
      have z2 : (wr.alloc (.cells #[.int .i64 (y.num : Int), .int .i64 (y.at_ : Int), .slice y.ao y.len y.cap] 51)).cell? ⟨wr.heap.size, 2, none⟩ = some (.slice y.ao y.len y.cap) := by rw [cell_at (heap_alloc_new wr _)]; rfl
      have eR : (wr.alloc (.cells #[.int .i64 (y.num : Int), .int .i64 (y.at_ : Int), .slice y.ao y.len y.cap] 51)).heap[R']? = some (.cells [.slice oo i oc].toArray 72 (0, 0)) := hA2.blk (by simp [refL])
      have r0 : (wr.alloc (.cells #[.int .i64 (y.num : Int), .int .i64 (y.at_ : Int), .slice y.ao y.len y.cap] 51)).cell? ⟨R', 0, none⟩ = some (.slice oo i oc) := by rw [cell_at eR]; rfl
      have hzl : zs.length < 64 := by omega
      have hbl := HC.out i
      rw [hybs] at hbl
      have ST := snap_step (bx := wr.heap.size) (oo := oo) (oc := oc) (zs := zs) (by rw [← hz]; exact hA2) hrd hbl hzl z0 z1
      rw [← hz] at ST
      have HST := hid ST
      have FIN : Hid (∀ o3 c3, (zs ++ [(⟨y.num, y.at_, o3, y.bs.length, c3, y.bs⟩ : Xs)]).length = i + 1 ∧ (zs ++ [(⟨y.num, y.at_, o3, y.bs.length, c3, y.bs⟩ : Xs)]).map Xs.key = (rs.take (i + 1)).map Xs.key) := hid (fun o3 c3 => ⟨by simp; omega, by
        rw [List.take_add_one, hy, List.map_append, List.map_append, hk]
        rfl⟩)
      clear hA hA2 ST hrd ydat hrow1 hk hG eR hbl hybs hy hii hz hzl
      go_upto_region 5 with fail
      clear x0 x1 x2 hgr HS HC HR hrl hn
      generalize (wr.alloc (.cells #[.int .i64 (y.num : Int), .int .i64 (y.at_ : Int), .slice y.ao y.len y.cap] 51)) = w4 at *
      generalize wr.heap.size = K at *
      go_region_law (first
        | (go_simp; go_at_call 38; refine HST.out.mono ?_; rintro e w6 ⟨o3, c3, rfl, s0, s1, s2, s3, s4, ao', c', w7, hr, s5, s6, HI⟩; have HR6 := hid hr; clear hr)
        | (refine step_append_run (by rfl) (.tmp 21) (.tmp 30) 37 (by rfl) _ _ _ _ (by rfl) (by rfl) HR6.out ?_))
      all_goals
        clear HR6 s0 s1 s2 s3 s4 HST z0 z1 z2 r0
        go_wp2_with fail
        go_roundw
        case rel => exact ⟨i + 1, by omega, by go_num, hid ⟨ao', c', zs ++ [⟨y.num, y.at_, o3, y.bs.length, c3, y.bs⟩], ((FIN.out o3 c3).1).symm, (FIN.out o3 c3).2, HI.out⟩⟩
        case measure => simp [intOf]; omega
    · have l1 : decide ((i : Int) < (rl : Int)) = false := decide_eq_false (by omega)
      have l2 : ¬ (i : Int) < (rl : Int) := by omega
      have FIN : Hid (∃ v' zs, RS n zs S ∧ All (refL R' v' zs ++ (refL R (.slice ro rs.length rc) rs ++ cs)) wr) := hid (by
        obtain ⟨oo, oc, zs, hz, hk, hA⟩ := hG.out
        have hir : i = rs.length := by rw [← hrl.out]; omega
        refine ⟨_, zs, ⟨by rw [← hz, hir]; exact HS.out.len, fun j y hy => ?_⟩, hA⟩
        rw [hir, List.take_of_length_le (Nat.le_refl _)] at hk
        have e1 : (zs.map Xs.key)[j]? = some y.key := by rw [List.getElem?_map, hy]; rfl
        rw [hk, List.getElem?_map] at e1
        obtain ⟨y2, hy2, e2⟩ := Option.map_eq_some_iff.1 e1
        obtain ⟨q1, q2⟩ := HS.out.each j y2 hy2
        simp only [Xs.key, Prod.mk.injEq] at e2
        obtain ⟨f1, f2, f3⟩ := e2
        exact ⟨by rw [← f1, q1], by rw [← q2, f2, f3]⟩)
      clear hG
      go_wp2
      go_ret
      obtain ⟨v', zs, h1, h2⟩ := FIN.out
      exact ⟨R', rfl, v', zs, h1, h2⟩
end Go.Proofs.Ytaomhahmpbfjhaa

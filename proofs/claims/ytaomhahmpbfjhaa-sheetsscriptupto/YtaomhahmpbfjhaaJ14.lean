import Derived.Test.YtaomhahmpbfjhaaJ13
import Derived.Test.YtaomhahmpbfjhaaJ11
import Derived.Test.YtaomhahmpbfjhaaJ12
import Derived.Test.YtaomhahmpbfjhaaJ9
namespace Go.Proofs.Ytaomhahmpbfjhaa
open Go.RowKit
set_option linter.unusedVariables false

/-- Bytes of their own. -/
theorem app_bytes {w : World} {s : Value} {l : List UInt8} (hs : Reads w s l) (hl : l.length ≤ 140737488355328) : ∃ ao c w', (Builtin.append_ #[36, 36] 36 #[.slice none 0 0, s]).run Try.prog w = .ok (.slice ao l.length c) w' ∧ w'.ownsRow w.heap.size 5 1 (.slice ao l.length c) l.length (cellsB l) ∧ Below w.heap.size w w' := by
  obtain ⟨ao, c, rfl, hc, hcase⟩ := hs
  obtain ⟨i0, hi, hz0, hz1, hz2⟩ := info_parts Try.info5
  have h0 : w.ownsRow w.heap.size 5 1 (.slice none 0 0) 0 [] := ⟨by simp, Or.inl ⟨rfl, rfl⟩⟩
  cases ao with
  | none =>
    have hl0 : l = [] := by
      rcases hcase with h | ⟨g, o, e, _⟩
      · exact h.1
      · cases e
    have hc0 : c = 0 := by
      rcases hcase with h | ⟨g, o, e, _⟩
      · exact h.2 rfl
      · cases e
    subst hl0
    subst hc0
    exact ⟨none, 0, w, run_append_owned_none (P := Try.prog) (w := w) w.heap.size 36 36 5 i0 1 Try.underlying36 hi _ 0 [] h0, ⟨by simp [cellsB], Or.inl ⟨rfl, rfl⟩⟩, Below.refl _ _⟩
  | some a =>
    have A : ∀ j u, (cellsB l)[j]? = some u → w.cell? (a.add j) = some u := by
      rcases hcase with h | ⟨g, o, e, _, h⟩
      · exact (fun j u hu => by rw [h.1] at hu; simp [cellsB] at hu)
      · cases e
        simpa [Addr.add_lit] using h
    obtain ⟨v', w', hr, h2, h3, h4, h5⟩ := run_append_own_at (P := Try.prog) w w.heap.size 36 36 5 i0 _ 1 1 Try.underlying36 hi hz0 hz1 hz2 rfl (by decide) (.slice none 0 0) 0 [] h0 a l.length c (cellsB l) (by simp [cellsB_length]) A (cellsB_one l) (by unfold maxLen; omega) (by omega) (Nat.le_refl _)
    rw [Nat.zero_add, List.nil_append] at h2
    obtain ⟨ao, cap, rfl⟩ := owns_form h2
    exact ⟨ao, cap, w', hr, h2, (Below.refl _ w).grown h3 (Nat.le_refl _) (by intro k hk; simp [Value.ownBlock] at hk)⟩

def flatS (l : List Sh) : List Value := l.flatMap Sh.cells
def datS (x : Sh) : Comp := rowC 5 1 (.slice x.ao x.len x.cap) x.bs.length (cellsB x.bs)
def Sh.key (x : Sh) : Int × Int × List UInt8 := (x.num, x.at_, x.bs)
theorem flatS_snoc (l : List Sh) (e : Sh) : flatS (l ++ [e]) = flatS l ++ e.cells := by simp [flatS]
theorem Sh.one (x : Sh) : ∀ u ∈ x.cells, u.oneCell' = true := by
  intro u hu
  simp only [Sh.cells, List.mem_cons, List.not_mem_nil, or_false] at hu
  rcases hu with rfl | rfl | rfl <;> rfl
theorem app_sh {W : World} {K : Nat} {x : Sh} {v : Value} {l : List Sh} {cs : List Comp} (A : All (rowC 51 3 v l.length (flatS l) :: cs) W) (hK : W.heap[K]? = some (.cells x.cells.toArray 51 (0, 0))) (hlen : (l.length + 1) * 40 ≤ 140737488355328) :
    ∃ ao c w', (Builtin.append_ #[37, 37] 37 #[v, .slice (some ⟨K, 0, none⟩) 1 1]).run Try.prog W = .ok (.slice ao (l.length + 1) c) w' ∧ All (rowC 51 3 (.slice ao (l.length + 1) c) (l ++ [x]).length (flatS (l ++ [x])) :: cs) w' := by
  obtain ⟨i1, hi1, hz0, hz1, hz2⟩ := info_parts Try.info51
  obtain ⟨v', w', hr, h2, h3, h4, h5⟩ := run_append_own_at (P := Try.prog) W 0 37 37 51 i1 _ 3 40 Try.underlying37 hi1 hz0 hz1 hz2 rfl (by decide) v l.length (flatS l) A.1.2.1 ⟨K, 0, none⟩ 1 1 x.cells rfl
    (fun j u hu => by rw [Addr.add_lit, Nat.zero_add, cell_at hK]; exact (List.getElem?_toArray ..).trans hu) x.one (by unfold maxLen; omega) hlen (by omega)
  obtain ⟨ao, c, rfl⟩ := owns_form h2
  exact ⟨ao, c, w', hr, A.rowGrow (vs' := flatS (l ++ [x])) (n' := (l ++ [x]).length) (by rw [flatS_snoc, List.length_append]; exact h2) h3 h5⟩

set_option maxRecDepth 1000000 in
set_option maxHeartbeats 1600000 in
theorem lcopied_any {w w0 : World} {ao : Option Addr} {c : Nat} {xs : List Sh} {cs : List Comp} (hA : All cs w) (hin : inC w0 ∈ cs) (hR : ShR w0 ao xs) (hD : ∀ x ∈ xs, Reads w0 (.slice x.ao x.len x.cap) x.bs ∧ x.bs.length ≤ 140737488355328) (hl : xs.length ≤ 1099511627776) :
    Calls Try.prog 50 #[.slice ao xs.length c] w fun e w' => ∃ oo oc zs, e = .returned (.slice oo (List.length zs) oc) ∧ zs.map Sh.key = xs.map Sh.key ∧ All (rowC 51 3 (.slice oo (List.length zs) oc) zs.length (flatS zs) :: (zs.map datS ++ cs)) w' := by
  have HR := hid hR
  have HD := hid hD
  have HI := hid hin
  have A0 := hid (hA.addRow0 (e := 51) (size := 3))
  clear hR hD hA hin
  go_enter Try.func50, Try.ntmps50
  go_wp2_with fail
  go_loopw [3, 8] (fun ov iv wr => ∃ (i : Nat) (oo : Option Addr) (oc : Nat), i ≤ xs.length ∧ iv = .int .i64 (i : Int) ∧ ov = .slice oo i oc ∧ Hid (∃ zs, i = List.length zs ∧ zs.map Sh.key = (xs.take i).map Sh.key ∧ All (rowC 51 3 (.slice oo i oc) i (flatS zs) :: (zs.map datS ++ cs)) wr)) (fun _ iv _ => xs.length - (intOf iv).toNat)
  case atStart => exact ⟨0, none, 0, by omega, rfl, rfl, hid ⟨[], rfl, by simp, A0.out⟩⟩
  case round =>
    clear A0
    obtain ⟨i, oo, oc, hi, rfl, rfl, hG⟩ := hrel
    by_cases hlt : i < xs.length
    · have l1 : decide ((i : Int) < (xs.length : Int)) = true := decide_eq_true (by omega)
      have l2 : (i : Int) < (xs.length : Int) := by omega
      obtain ⟨x, hx⟩ : ∃ x, xs[i]? = some x := ⟨_, List.getElem?_eq_getElem hlt⟩
      obtain ⟨zs, hz, hk, A1⟩ := hG.out
      have hB0 := A1.into (w0 := w0) (by simp [HI.out])
      obtain ⟨gr, off, rfl, hgr, c0, c1, c2⟩ := (HR.out.later hB0).at hx
      obtain ⟨hd, hdl⟩ := HD.out x (List.mem_of_getElem? hx)
      obtain ⟨K, hK⟩ : ∃ K, Hid (K = wr.heap.size) := ⟨_, hid rfl⟩
      obtain ⟨d1, d2, w2, hr, ho, hb⟩ := app_bytes ((hd.below hB0).below (ba wr (.cells #[.int .i64 x.num, .int .i64 x.at_, .slice x.ao x.len x.cap] 51))) hdl
      have HRB := hid hr
      have A2 := A1.addBlk [.int .i64 x.num, .int .i64 x.at_, .slice x.ao x.len x.cap] 51
      rw [← hK.out] at A2
      have e1 : (wr.alloc (.cells #[.int .i64 x.num, .int .i64 x.at_, .slice x.ao x.len x.cap] 51)).heap[K]? = some (.cells [.int .i64 x.num, .int .i64 x.at_, .slice x.ao x.len x.cap].toArray 51 (0, 0)) := A2.1.2.1
      have z2 : (wr.alloc (.cells #[.int .i64 x.num, .int .i64 x.at_, .slice x.ao x.len x.cap] 51)).cell? ⟨K, 2, none⟩ = some (.slice x.ao x.len x.cap) := by rw [cell_at e1]; rfl
      have A3 : All (datS ⟨x.num, x.at_, d1, x.bs.length, d2, x.bs⟩ :: blkC K [.int .i64 x.num, .int .i64 x.at_, .slice x.ao x.len x.cap] 51 :: rowC 51 3 (.slice oo i oc) i (flatS zs) :: (zs.map datS ++ cs)) w2 := by
        refine A2.add (Fr.below hb) (rowC_good _ _ _ _ _) (owns_zero ho) (fun k' hk' => ?_)
        have hk2 : (Value.slice d1 x.bs.length d2).ownBlock = some k' := by simpa [datS, rowC] using hk'
        exact World.ownsRow.lt ho k' hk2
      have e2 := A3.tail.1.2.1
      have y2 : w2.cell? ⟨K, 2, none⟩ = some (.slice x.ao x.len x.cap) := by rw [cell_at e2]; rfl
      have f2 := free_at e2 2
      have A4 := A3.swap.setBlk 2 (.slice d1 x.bs.length d2)
      have e3 : (w2.setCell ⟨K, 2, none⟩ (.slice d1 x.bs.length d2)).heap[K]? = some (.cells [.int .i64 x.num, .int .i64 x.at_, .slice d1 x.bs.length d2].toArray 51 (0, 0)) := A4.1.2.1
      have t0 : (w2.setCell ⟨K, 2, none⟩ (.slice d1 x.bs.length d2)).cell? ⟨K, 0, none⟩ = some (.int .i64 x.num) := by rw [cell_at e3]; rfl
      have t1 : (w2.setCell ⟨K, 2, none⟩ (.slice d1 x.bs.length d2)).cell? ⟨K, 1, none⟩ = some (.int .i64 x.at_) := by rw [cell_at e3]; rfl
      have t2 : (w2.setCell ⟨K, 2, none⟩ (.slice d1 x.bs.length d2)).cell? ⟨K, 2, none⟩ = some (.slice d1 x.bs.length d2) := by rw [cell_at e3]; rfl
      have A5 : All (rowC 51 3 (.slice oo i oc) zs.length (flatS zs) :: datS ⟨x.num, x.at_, d1, x.bs.length, d2, x.bs⟩ :: (zs.map datS ++ cs)) (w2.setCell ⟨K, 2, none⟩ (.slice d1 x.bs.length d2)) := by
        have := A4.tail.swap
        rw [hz] at this ⊢
        exact this
      obtain ⟨a6, c6, w6, hr6, A6⟩ := app_sh (x := ⟨x.num, x.at_, d1, x.bs.length, d2, x.bs⟩) (A5.alloc (.cells #[.int .i64 x.num, .int .i64 x.at_, .slice d1 x.bs.length d2] 51)) (heap_alloc_new _ _) (by omega)
      rw [← hz] at hr6 A6
      have hsz : (w2.setCell ⟨K, 2, none⟩ (.slice d1 x.bs.length d2)).heap.size = w2.heap.size := by simp [World.setCell]
      rw [hsz] at hr6
      have HR6 := hid hr6
      have FIN : Hid (∃ zs', i + 1 = List.length zs' ∧ zs'.map Sh.key = (xs.take (i + 1)).map Sh.key ∧ All (rowC 51 3 (.slice a6 (i + 1) c6) (i + 1) (flatS zs') :: (zs'.map datS ++ cs)) w6) := hid ⟨zs ++ [⟨x.num, x.at_, d1, x.bs.length, d2, x.bs⟩], by simp; omega, by
        rw [List.take_add_one, hx, List.map_append, List.map_append, hk]
        rfl, by
        have e : (zs ++ [(⟨x.num, x.at_, d1, x.bs.length, d2, x.bs⟩ : Sh)]).length = i + 1 := by simp; omega
        rw [e] at A6
        refine A6.perm (.cons _ ?_)
        rw [List.map_append, List.append_assoc]
        exact List.perm_middle.symm⟩
      have hKl := World.block_lt_of_cell? _ _ y2
      clear hr hr6 A1 A2 A3 A4 A5 A6 e1 e2 e3 hG hk hz hx hd hdl hB0 ho hb
      go_upto_region 5 with fail
      rw [← hK.out]
      clear hK c0 c1 c2 hgr
      generalize (wr.alloc (.cells #[.int .i64 x.num, .int .i64 x.at_, .slice x.ao x.len x.cap] 51)) = w1 at *
      go_wp2_with (first | (at_builtin; refine wpList_append_run rfl (.const (.slice none 0 0)) (.tmp 13) 36 rfl _ _ _ _ rfl rfl HRB.out ?_) | (at_builtin; refine wpList_append_run rfl (.tmp 16) (.tmp 18) 37 rfl _ _ _ _ rfl rfl HR6.out ?_))
      go_roundw
      case rel => exact ⟨i + 1, a6, c6, by omega, by go_num, rfl, FIN⟩
      case measure => simp [intOf]; omega
    · have l1 : decide ((i : Int) < (xs.length : Int)) = false := decide_eq_false (by omega)
      have l2 : ¬ (i : Int) < (xs.length : Int) := by omega
      have FIN : Hid (∃ zs, i = List.length zs ∧ zs.map Sh.key = xs.map Sh.key ∧ All (rowC 51 3 (.slice oo i oc) i (flatS zs) :: (zs.map datS ++ cs)) wr) := hid (by
        obtain ⟨zs, hz, hk, hA⟩ := hG.out
        rw [List.take_of_length_le (by omega)] at hk
        exact ⟨zs, hz, hk, hA⟩)
      clear hG
      go_wp2
      go_ret
      obtain ⟨zs, hz, hk, hA⟩ := FIN.out
      subst hz
      exact ⟨oo, oc, zs, rfl, hk, hA⟩
end Go.Proofs.Ytaomhahmpbfjhaa

namespace Go.Proofs.Ytaomhahmpbfjhaa
open Go.RowKit
set_option linter.unusedVariables false

/-- An act that came in, with its list. -/
structure AcIn (w0 : World) (x : Ac) (xs : List Sh) : Prop where
  rd : Reads w0 (.slice x.d1 x.d2 x.d3) x.data
  dl : x.data.length ≤ 140737488355318
  len : x.l2 = xs.length
  sh : ShR w0 x.l1 xs
  shd : ∀ y ∈ xs, Reads w0 (.slice y.ao y.len y.cap) y.bs ∧ y.bs.length ≤ 140737488355318
  few : xs.length ≤ 1099511627776
  at64 : x.at_ ≤ 9223372036854775807
theorem DeskI.more {D n N i i' : Nat} {cs : List Comp} {w : World} (h : DeskI D n N i cs w) (hi : i ≤ i') : DeskI D n N i' cs w := by
  obtain ⟨va, vb, vm, Q, T, M, h1, h2, h3⟩ := h
  exact ⟨va, vb, vm, Q, T, M, h1, h2.more hi, h3⟩
end Go.Proofs.Ytaomhahmpbfjhaa

namespace Go.Proofs.Ytaomhahmpbfjhaa
open Go.RowKit
set_option linter.unusedVariables false

set_option maxHeartbeats 3200000 in
set_option maxRecDepth 1000000 in
theorem act_0 {D n i : Nat} {va vb vm : Value} {Q : Pool} {T : List Tq} {M : List Mk} {cs : List Comp} {w w0 : World} {x : Ac} {xs : List Sh} (hA : All (deskL D n va vb vm Q T M ++ cs) w) (hF : DF Q n T M i) (hin : inC w0 ∈ cs) (hx : AcIn w0 x xs) (hi : i ≤ 1099511627000) (hm : amN x.kind 7 = 0) : Calls Try.prog 9 #[.pointer (some ⟨D, 0, none⟩), .agg x.cells.toArray] w fun e w' => e = .returned (.bool true) ∧ DeskI D n T.length (i + 64) cs w' := by
  obtain ⟨kd, bk, nu, at_, d1, d2, d3, l1, l2, l3, data⟩ := x
  have hk : amN bk T.length < T.length := amN_lt _ hF.one
  obtain ⟨k, hk0⟩ : ∃ k, amN bk T.length = k := ⟨_, rfl⟩
  rw [hk0] at hk
  obtain ⟨t, hT⟩ : ∃ t, Hid (T[k]? = some t) := ⟨_, hid (List.getElem?_eq_getElem hk)⟩
  have hok := hid (hF.ok t (List.mem_of_getElem? hT.out))
  obtain ⟨K, hK⟩ : ∃ K, Hid (K = w.heap.size) := ⟨_, hid rfl⟩
  have A1 : Hid (All (deskL D n va vb vm Q T M ++ (blkC K [.int .i64 kd, .int .i64 bk, .int .i64 nu, .int .i64 at_, .slice d1 d2 d3, .slice l1 l2 l3] 39 :: cs)) (w.alloc (.cells #[.int .i64 kd, .int .i64 bk, .int .i64 nu, .int .i64 at_, .slice d1 d2 d3, .slice l1 l2 l3] 39))) := hid (by
    have h1 := hA.addBlk [.int .i64 kd, .int .i64 bk, .int .i64 nu, .int .i64 at_, .slice d1 d2 d3, .slice l1 l2 l3] 39
    rw [← hK.out] at h1
    exact h1.perm List.perm_middle.symm)
  obtain ⟨ra, ca, rb, cb, rfl, rfl, RD⟩ := desk_reads hT.out A1.out
  obtain ⟨c0, c1, pa, pb⟩ := RD
  simp only at hm
  have HAM : Hid (∀ W : World, Calls Try.prog 25 #[.int .i64 kd, .int .i64 7] W fun e w' => e = .returned (.int .i64 0) ∧ w' = W) := hid (fun W => by
    refine (among_is kd 7 (by decide) (by decide)).mono ?_
    rintro e w' ⟨rfl, rfl⟩
    rw [hm]
    exact ⟨rfl, rfl⟩)
  have HAK : Hid (∀ W : World, Calls Try.prog 25 #[.int .i64 bk, .int .i64 (T.length : Int)] W fun e w' => e = .returned (.int .i64 (k : Int)) ∧ w' = W) := hid (fun W => by
    refine (among_is bk T.length hF.one (by have := hF.four; omega)).mono ?_
    rintro e w' ⟨rfl, rfl⟩
    rw [hk0]
    exact ⟨rfl, rfl⟩)
  have HF := hid hF
  have HX := hid hx
  have HIN := hid hin
  have hN4 := hF.four
  have HKL := hid hk
  have j1 : (k : Int) < (T.length : Int) := by omega
  generalize hN : T.length = N at *
  have HN := hid hN
  clear hA hF hm hN hk0 hx hin hk
  show Calls Try.prog 9 #[.pointer (some ⟨D, 0, none⟩), .agg #[.int .i64 kd, .int .i64 bk, .int .i64 nu, .int .i64 at_, .slice d1 d2 d3, .slice l1 l2 l3]] w _
  go_enter Try.func9, Try.ntmps9
  go_upto_region 1 with fail
  rw [← hK.out]
  clear hK
  have ZZ : Hid (∀ (Y : List Comp) W, All (Y ++ (blkC K [.int .i64 kd, .int .i64 bk, .int .i64 nu, .int .i64 at_, .slice d1 d2 d3, .slice l1 l2 l3] 39 :: cs)) W → W.cell? ⟨K, 0, none⟩ = some (.int .i64 kd) ∧ W.cell? ⟨K, 1, none⟩ = some (.int .i64 bk) ∧ W.cell? ⟨K, 2, none⟩ = some (.int .i64 nu) ∧ W.cell? ⟨K, 3, none⟩ = some (.int .i64 at_) ∧ W.cell? ⟨K, 4, none⟩ = some (.slice d1 d2 d3) ∧ W.cell? ⟨K, 5, none⟩ = some (.slice l1 l2 l3)) := hid (fun Y W hW => by
    have e : W.heap[K]? = some (.cells [.int .i64 kd, .int .i64 bk, .int .i64 nu, .int .i64 at_, .slice d1 d2 d3, .slice l1 l2 l3].toArray 39 (0, 0)) := hW.blk (by simp)
    refine ⟨?_, ?_, ?_, ?_, ?_, ?_⟩ <;> (rw [cell_at e]; rfl))
  generalize (w.alloc (.cells #[.int .i64 kd, .int .i64 bk, .int .i64 nu, .int .i64 at_, .slice d1 d2 d3, .slice l1 l2 l3] 39)) = w1 at *
  obtain ⟨z0, z1, z2, z3, z4, z5⟩ := ZZ.out _ _ A1.out
  go_region_held3 (fun W => W.cell? ⟨K, 1, none⟩ = some (.int .i64 bk) ∧ W.cell? ⟨D, 0, none⟩ = some (.slice (some ⟨ra, 0, none⟩) N ca)) (go_keep)
    ((go_at_call 25; refine (HAK.out _).mono ?_; rintro e w3 ⟨rfl, hw3⟩; have A3 := hid A1.out.drew; rw [← hw3] at A3; obtain ⟨_, s1, _⟩ := ZZ.out _ _ A3.out; have s2 := (desk_rd hT.out A3.out).c0; clear hw3))
  clear HAK A1 c0 c1 pa pb z0 z1 z2 z3 z4 z5 s1 s2
  obtain ⟨z0, z1, z2, z3, z4, z5⟩ := ZZ.out _ _ A3.out
  go_wp2_with fail
  refine (HAM.out _).mono ?_
  rintro e w5 ⟨rfl, hw5⟩
  have A4 := hid A3.out
  rw [← hw5] at A4
  clear hw5 A3 z0 z1 z2 z3 z4 z5 HAM
  have A5 := hid (desk_out hT.out A4.out)
  clear A4
  have SS : Hid (∀ (X : List Comp) W, All (X ++ (hdL D (.slice (some ⟨ra, 0, none⟩) N ca) (.slice (some ⟨rb, 0, none⟩) N cb) vm (pA T) (pB T) M ++ (OT n T k ++ (blkC K [.int .i64 kd, .int .i64 bk, .int .i64 nu, .int .i64 at_, .slice d1 d2 d3, .slice l1 l2 l3] 39 :: cs)))) W → W.cell? ⟨D, 0, none⟩ = some (.slice (some ⟨ra, 0, none⟩) N ca) ∧ W.cell? ⟨D, 1, none⟩ = some (.slice (some ⟨rb, 0, none⟩) N cb) ∧ W.cell? ⟨ra, k, none⟩ = some (.pointer (some ⟨t.g, 0, none⟩)) ∧ W.cell? ⟨rb, k, none⟩ = some (.pointer (some ⟨t.R, 0, none⟩)) ∧ W.cell? ⟨K, 2, none⟩ = some (.int .i64 nu) ∧ W.cell? ⟨K, 3, none⟩ = some (.int .i64 at_) ∧ W.cell? ⟨K, 4, none⟩ = some (.slice d1 d2 d3)) := hid (fun X W hW => by
    obtain ⟨a1, a2, a3, a4⟩ := hd_reads hT.out hW
    obtain ⟨_, _, b1, b2, b3, _⟩ := ZZ.out (X ++ (hdL D (.slice (some ⟨ra, 0, none⟩) N ca) (.slice (some ⟨rb, 0, none⟩) N cb) vm (pA T) (pB T) M ++ OT n T k)) W (by simpa [List.append_assoc] using hW)
    exact ⟨a1, a2, a3, a4, b1, b2, b3⟩)
  clear ZZ
  have q0 := hid (SS.out (poolC Q :: blkC t.g (bookL n t.lv t.ps) 70 :: refL t.R t.v t.rs) _ A5.out)
  obtain ⟨c0, c1, pa, pb, z2, z3, z4⟩ := q0.out
  have HB0 := hid (A5.out.into (w0 := w0) (by simp [HIN.out]))
  obtain ⟨a6, k6, w6, hr6, ho6, hb6⟩ := app_bytes (HX.out.rd.below HB0.out) (by have := HX.out.dl; simp only at this ⊢; omega)
  simp only at hr6 ho6
  have HR6 := hid hr6
  have A6 := hid (show All (ownC 5 (.slice a6 data.length k6) (cellsB data) :: poolC Q :: blkC t.g (bookL n t.lv t.ps) 70 :: (refL t.R t.v t.rs ++ (hdL D (.slice (some ⟨ra, 0, none⟩) N ca) (.slice (some ⟨rb, 0, none⟩) N cb) vm (pA T) (pB T) M ++ (OT n T k ++ (blkC K [.int .i64 kd, .int .i64 bk, .int .i64 nu, .int .i64 at_, .slice d1 d2 d3, .slice l1 l2 l3] 39 :: cs))))) w6 from A5.out.addOwn hb6 (by rw [show (cellsB data).length = data.length by simp [cellsB]]; exact ho6))
  clear hr6 ho6 hb6
  go_upto_region 5 with (at_builtin; refine wpList_append_run rfl (.const (.slice none 0 0)) (.tmp 22) 36 rfl _ _ _ _ rfl rfl HR6.out ?_)
  clear HR6 HB0 c0 c1 pa pb z2 z3 z4 q0 A5
  have q0 := hid (SS.out (ownC 5 (.slice a6 data.length k6) (cellsB data) :: poolC Q :: blkC t.g (bookL n t.lv t.ps) 70 :: refL t.R t.v t.rs) _ A6.out)
  obtain ⟨c0, c1, pa, pb, z2, z3, z4⟩ := q0.out
  have hn64 : n ≤ 64 := Nat.le_trans hok.out.bk.nlv hok.out.bk.lv64
  have HRD : Hid (∀ (Y : List Comp) W, All (Y ++ (OT n T k ++ (blkC K [.int .i64 kd, .int .i64 bk, .int .i64 nu, .int .i64 at_, .slice d1 d2 d3, .slice l1 l2 l3] 39 :: cs))) W → Reads W (.slice d1 d2 d3) data) := hid (fun Y W hW => HX.out.rd.below (hW.into (w0 := w0) (by simp [HIN.out])))
  obtain ⟨E, hE⟩ : ∃ E, Hid (putE n t.S nu at_ data = E) := ⟨_, hid rfl⟩
  go_region_held3 (fun W => W.cell? ⟨D, 0, none⟩ = some (.slice (some ⟨ra, 0, none⟩) N ca) ∧ W.cell? ⟨D, 1, none⟩ = some (.slice (some ⟨rb, 0, none⟩) N cb) ∧ W.cell? ⟨ra, k, none⟩ = some (.pointer (some ⟨t.g, 0, none⟩)) ∧ W.cell? ⟨rb, k, none⟩ = some (.pointer (some ⟨t.R, 0, none⟩)) ∧ W.cell? ⟨K, 2, none⟩ = some (.int .i64 nu) ∧ W.cell? ⟨K, 3, none⟩ = some (.int .i64 at_) ∧ W.cell? ⟨K, 4, none⟩ = some (.slice d1 d2 d3)) (first | exact q0.out | exact q1.out | exact q2.out)
    (first
      | (go_at_call 12; refine (Put_all A6.out.bca.drew hok.out.bk (Reads.of_owns (show w6.drew.ownsRow 0 5 1 (.slice a6 data.length k6) data.length (cellsB data) from (by have h := A6.out.drew.1.2.1; rw [← rowC_own] at h; exact h)))).mono ?_; rintro e w7 ⟨rfl, Q7, lv7, ps7, N7, A7, B7, hs7⟩; rw [hE.out]; have A7 := hid A7; have B7 := hid B7; have HS7 := hid hs7; have q1 := hid (SS.out (poolC Q7 :: blkC t.g (bookL n lv7 ps7) 70 :: ownC 5 (.slice a6 data.length k6) (cellsB data) :: refL t.R t.v t.rs) _ A7.out); have A8 : Hid (All (refL t.R t.v t.rs ++ (poolC Q7 :: blkC t.g (bookL n lv7 ps7) 70 :: ownC 5 (.slice a6 data.length k6) (cellsB data) :: (hdL D (.slice (some ⟨ra, 0, none⟩) N ca) (.slice (some ⟨rb, 0, none⟩) N cb) vm (pA T) (pB T) M ++ (OT n T k ++ (blkC K [.int .i64 kd, .int .i64 bk, .int .i64 nu, .int .i64 at_, .slice d1 d2 d3, .slice l1 l2 l3] 39 :: cs))))) w7) := hid (A7.out.perm (by have := perm_by 3 [[poolC Q7, blkC t.g (bookL n lv7 ps7) 70, ownC 5 (.slice a6 data.length k6) (cellsB data)], refL t.R t.v t.rs, (hdL D (.slice (some ⟨ra, 0, none⟩) N ca) (.slice (some ⟨rb, 0, none⟩) N cb) vm (pA T) (pB T) M ++ (OT n T k ++ (blkC K [.int .i64 kd, .int .i64 bk, .int .i64 nu, .int .i64 at_, .slice d1 d2 d3, .slice l1 l2 l3] 39 :: cs)))] [1, 0, 2] rfl (by decide); simpa [List.getD] using this)); clear hs7)
      | (go_at_call 13; refine (rPut_all ⟨_, _, A8.out, hok.out.rs⟩ hn64 hok.out.bk.cap (HRD.out (poolC Q7 :: blkC t.g (bookL n lv7 ps7) 70 :: ownC 5 (.slice a6 data.length k6) (cellsB data) :: (refL t.R t.v t.rs ++ hdL D (.slice (some ⟨ra, 0, none⟩) N ca) (.slice (some ⟨rb, 0, none⟩) N cb) vm (pA T) (pB T) M)) _ (by simpa only [List.cons_append, List.append_assoc] using A7.out))).mono ?_; rintro e w9 ⟨rfl, v9, rs9, A9, R9⟩; rw [hE.out]; have A9 := hid A9; have R9 := hid R9; have q2 := hid (SS.out (refL t.R v9 rs9 ++ (poolC Q7 :: blkC t.g (bookL n lv7 ps7) 70 :: [ownC 5 (.slice a6 data.length k6) (cellsB data)])) _ (by simpa only [List.cons_append, List.append_assoc, List.nil_append] using A9.out))))
  clear q0 q1 A6 A7 A8 c0 c1 pa pb z2 z3 z4
  obtain ⟨c0, c1, pa, pb, z2, z3, z4⟩ := q2.out
  have B9 : Hid (All (ownC 5 (.slice a6 data.length k6) (cellsB data) :: poolC Q7 :: blkC t.g (bookL n lv7 ps7) 70 :: (refL t.R v9 rs9 ++ (hdL D (.slice (some ⟨ra, 0, none⟩) N ca) (.slice (some ⟨rb, 0, none⟩) N cb) vm (pA T) (pB T) M ++ (OT n T k ++ (blkC K [.int .i64 kd, .int .i64 bk, .int .i64 nu, .int .i64 at_, .slice d1 d2 d3, .slice l1 l2 l3] 39 :: cs))))) w9) := hid (A9.out.perm (by
    have := perm_by 4 [refL t.R v9 rs9, [poolC Q7, blkC t.g (bookL n lv7 ps7) 70], [ownC 5 (.slice a6 data.length k6) (cellsB data)], (hdL D (.slice (some ⟨ra, 0, none⟩) N ca) (.slice (some ⟨rb, 0, none⟩) N cb) vm (pA T) (pB T) M ++ (OT n T k ++ (blkC K [.int .i64 kd, .int .i64 bk, .int .i64 nu, .int .i64 at_, .slice d1 d2 d3, .slice l1 l2 l3] 39 :: cs)))] [2, 1, 0, 3] rfl (by decide)
    simpa [List.getD] using this))
  have hdl := HX.out.dl
  simp only at hdl
  have C22 := hid (Same_any (l := data) (m := data) (Reads.of_owns (show w9.ownsRow 0 5 1 (.slice a6 data.length k6) data.length (cellsB data) from (by have h := B9.out.1.2.1; rw [← rowC_own] at h; exact h))) (HRD.out (ownC 5 (.slice a6 data.length k6) (cellsB data) :: poolC Q7 :: blkC t.g (bookL n lv7 ps7) 70 :: (refL t.R v9 rs9 ++ hdL D (.slice (some ⟨ra, 0, none⟩) N ca) (.slice (some ⟨rb, 0, none⟩) N cb) vm (pA T) (pB T) M)) _ (by simpa only [List.cons_append, List.append_assoc] using B9.out)) (by omega) (by omega))
  clear q2 A9
  go_wp2_with fail
  refine C22.out.mono ?_
  rintro e w10 ⟨rfl, q, hw10⟩
  rw [show (decide True) = true from rfl]
  have A10 := hid (B9.out.drewN q)
  rw [← hw10] at A10
  clear B9 hw10 C22 c0 c1 pa pb z2 z3 z4
  have C26 := hid (spoil_any A10.out 238 (by simpa [cellsB] using hdl))
  go_wp2_with fail
  refine C26.out.mono ?_
  rintro e w11 ⟨a11, c11, rfl, A11⟩
  have A11 := hid A11.tail
  clear C26 A10
  go_wp2
  go_ret
  exact ⟨rfl, HN.out ▸ (DeskI.mk (t' := ⟨t.g, t.R, lv7, ps7, N7, v9, rs9, putS n t.S nu at_ data⟩) hT.out HF.out HS7.out rfl rfl ⟨B7.out, R9.out⟩ (by have := HF.out.few; omega) HF.out.short A11.out).drop⟩
end Go.Proofs.Ytaomhahmpbfjhaa

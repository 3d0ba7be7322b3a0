import Derived.Test.YtaomhahmpbfjhaaJ12
import Derived.Test.YtaomhahmpbfjhaaJ14
import Derived.Test.YtaomhahmpbfjhaaJ8
import Derived.Test.YtaomhahmpbfjhaaJ13
namespace Go.Proofs.Ytaomhahmpbfjhaa
open Go.RowKit
set_option linter.unusedVariables false

set_option maxHeartbeats 3200000 in
set_option maxRecDepth 1000000 in
theorem act_1 {D n i : Nat} {va vb vm : Value} {Q : Pool} {T : List Tq} {M : List Mk} {cs : List Comp} {w w0 : World} {x : Ac} {xs : List Sh} (hA : All (deskL D n va vb vm Q T M ++ cs) w) (hF : DF Q n T M i) (hin : inC w0 ∈ cs) (hx : AcIn w0 x xs) (hi : i ≤ 1099511627000) (hm : amN x.kind 7 = 1) : Calls Try.prog 9 #[.pointer (some ⟨D, 0, none⟩), .agg x.cells.toArray] w fun e w' => e = .returned (.bool true) ∧ DeskI D n T.length (i + 64) cs w' := by
  obtain ⟨kd, bk, nu, at_, d1, d2, d3, l1, l2, l3, data⟩ := x
  have hk : amN bk T.length < T.length := amN_lt _ hF.one
  obtain ⟨k, hk0⟩ : ∃ k, amN bk T.length = k := ⟨_, rfl⟩
  rw [hk0] at hk
  obtain ⟨t, hT⟩ : ∃ t, Hid (T[k]? = some t) := ⟨_, hid (List.getElem?_eq_getElem hk)⟩
  have hok := hid (hF.ok t (List.mem_of_getElem? hT.out))
  obtain ⟨K, hK⟩ : ∃ K, Hid (K = w.heap.size) := ⟨_, hid rfl⟩
  have A1 : Hid (All (deskL D n va vb vm Q T M ++ (blkC K [.int .i64 kd, .int .i64 bk, .int .i64 nu, .int .i64 at_, .slice d1 d2 d3, .slice l1 l2 l3] 39 :: cs)) (w.alloc (.cells #[.int .i64 kd, .int .i64 bk, .int .i64 nu, .int .i64 at_, .slice d1 d2 d3, .slice l1 l2 l3] 39))) := hid (by
    have h1 := hA.addBlk [.int .i64 kd, .int .i64 bk, .int .i64 nu, .int .i64 at_, .slice d1 d2 d3, .slice l1 l2 l3] 39
    rw [← hK.out] at h1
    exact h1.perm List.perm_middle.symm)
  obtain ⟨ra, ca, rb, cb, rfl, rfl, RD⟩ := desk_reads hT.out A1.out
  obtain ⟨c0, c1, pa, pb⟩ := RD
  simp only at hm
  have HAM : Hid (∀ W : World, Calls Try.prog 25 #[.int .i64 kd, .int .i64 7] W fun e w' => e = .returned (.int .i64 1) ∧ w' = W) := hid (fun W => by
    refine (among_is kd 7 (by decide) (by decide)).mono ?_
    rintro e w' ⟨rfl, rfl⟩
    rw [hm]
    exact ⟨rfl, rfl⟩)
  have HAK : Hid (∀ W : World, Calls Try.prog 25 #[.int .i64 bk, .int .i64 (T.length : Int)] W fun e w' => e = .returned (.int .i64 (k : Int)) ∧ w' = W) := hid (fun W => by
    refine (among_is bk T.length hF.one (by have := hF.four; omega)).mono ?_
    rintro e w' ⟨rfl, rfl⟩
    rw [hk0]
    exact ⟨rfl, rfl⟩)
  have HF := hid hF
  have HX := hid hx
  have HIN := hid hin
  have hN4 := hF.four
  have HKL := hid hk
  have j1 : (k : Int) < (T.length : Int) := by omega
  generalize hN : T.length = N at *
  have HN := hid hN
  clear hA hF hm hN hk0 hx hin hk
  show Calls Try.prog 9 #[.pointer (some ⟨D, 0, none⟩), .agg #[.int .i64 kd, .int .i64 bk, .int .i64 nu, .int .i64 at_, .slice d1 d2 d3, .slice l1 l2 l3]] w _
  go_enter Try.func9, Try.ntmps9
  go_upto_region 1 with fail
  rw [← hK.out]
  clear hK
  have ZZ : Hid (∀ (Y : List Comp) W, All (Y ++ (blkC K [.int .i64 kd, .int .i64 bk, .int .i64 nu, .int .i64 at_, .slice d1 d2 d3, .slice l1 l2 l3] 39 :: cs)) W → W.cell? ⟨K, 0, none⟩ = some (.int .i64 kd) ∧ W.cell? ⟨K, 1, none⟩ = some (.int .i64 bk) ∧ W.cell? ⟨K, 2, none⟩ = some (.int .i64 nu) ∧ W.cell? ⟨K, 3, none⟩ = some (.int .i64 at_) ∧ W.cell? ⟨K, 4, none⟩ = some (.slice d1 d2 d3) ∧ W.cell? ⟨K, 5, none⟩ = some (.slice l1 l2 l3)) := hid (fun Y W hW => by
    have e : W.heap[K]? = some (.cells [.int .i64 kd, .int .i64 bk, .int .i64 nu, .int .i64 at_, .slice d1 d2 d3, .slice l1 l2 l3].toArray 39 (0, 0)) := hW.blk (by simp)
    refine ⟨?_, ?_, ?_, ?_, ?_, ?_⟩ <;> (rw [cell_at e]; rfl))
  generalize (w.alloc (.cells #[.int .i64 kd, .int .i64 bk, .int .i64 nu, .int .i64 at_, .slice d1 d2 d3, .slice l1 l2 l3] 39)) = w1 at *
  obtain ⟨z0, z1, z2, z3, z4, z5⟩ := ZZ.out _ _ A1.out
  go_region_held3 (fun W => W.cell? ⟨K, 1, none⟩ = some (.int .i64 bk) ∧ W.cell? ⟨D, 0, none⟩ = some (.slice (some ⟨ra, 0, none⟩) N ca)) (go_keep)
    ((go_at_call 25; refine (HAK.out _).mono ?_; rintro e w3 ⟨rfl, hw3⟩; have A3 := hid A1.out.drew; rw [← hw3] at A3; obtain ⟨_, s1, _⟩ := ZZ.out _ _ A3.out; have s2 := (desk_rd hT.out A3.out).c0; clear hw3))
  clear HAK A1 c0 c1 pa pb z0 z1 z2 z3 z4 z5 s1 s2
  obtain ⟨z0, z1, z2, z3, z4, z5⟩ := ZZ.out _ _ A3.out
  go_wp2_with fail
  refine (HAM.out _).mono ?_
  rintro e w5 ⟨rfl, hw5⟩
  have A4 := hid A3.out
  rw [← hw5] at A4
  clear hw5 A3 z0 z1 z2 z3 z4 z5 HAM
  obtain ⟨z0, z1, z2, z3, z4, z5⟩ := ZZ.out _ _ A4.out
  have C := hid (get_any nu (show All (deskL D n (.slice (some ⟨ra, 0, none⟩) N ca) (.slice (some ⟨rb, 0, none⟩) N cb) vm Q T M ++ (blkC K [.int .i64 kd, .int .i64 bk, .int .i64 nu, .int .i64 at_, .slice d1 d2 d3, .slice l1 l2 l3] 39 :: cs)) w5 from A4.out) HF.out (by rw [HN.out]; exact HKL.out) (by omega))
  go_wp2_with fail
  refine C.out.mono ?_
  rintro e w6 ⟨rfl, HI⟩
  have HI := hid HI.drop
  clear C z0 z1 z2 z3 z4 z5 A4
  go_wp2
  go_ret
  exact ⟨rfl, HN.out ▸ HI.out.more (by omega)⟩
end Go.Proofs.Ytaomhahmpbfjhaa

namespace Go.Proofs.Ytaomhahmpbfjhaa
open Go.RowKit Go.Shelf Go.Sort
attribute [local go_sem] Oper.semAt_some
set_option linter.unusedVariables false

set_option maxRecDepth 100000 in
set_option maxHeartbeats 4000000 in
theorem given_lim {w : World} {g n h : Nat} {ps : List Nat} {N : Nodes} {P : Pool} {cs : List Comp} {S : Sheets} {at_ lim : Int} (hA : All (poolC P :: blkC g (bookL n (2 ^ h) ps) 70 :: cs) w) (hB : Bk P n (2 ^ h) ps N S) (hh : h ≤ 6) (hlim : lim ≠ 0) :
    Calls Try.prog 20 #[.pointer (some ⟨g, 0, none⟩), .int .i64 at_, .int .i64 lim] w fun e w' => ∃ v ys, e = .returned v ∧ ((ys.map Xs.key = sel N (2 ^ h) at_.toNat (vis N at_.toNat h 1) ∧ ((ys.length : Int) < lim ∨ lim < 0)) ∨ (ys.map Xs.key <+: sel N (2 ^ h) at_.toNat (vis N at_.toNat h 1) ∧ (ys.length : Int) = lim)) ∧ All (rowC 51 3 v ys.length (flatX ys) :: (ys.map datC ++ poolC P :: blkC g (bookL n (2 ^ h) ps) 70 :: cs)) w' := by
  obtain ⟨a, ha⟩ : ∃ a, Hid (a = at_.toNat) := ⟨_, hid rfl⟩
  rw [← ha.out]
  obtain ⟨base, hbase⟩ : ∃ base, Hid (base = poolC P :: blkC g (bookL n (2 ^ h) ps) 70 :: cs) := ⟨_, hid rfl⟩
  rw [← hbase.out] at hA ⊢
  have HA := hid hA
  have hbl : ∀ d ∈ base, ∀ k ∈ d.fp, k < w.heap.size := fun d hd => (hA.mem hd).2.2
  have BL := hid hbl
  have A4 := (((hA.addBlk [.int .i64 lim] 3).addBlk [.slice none 0 0] 37).addBlk [.pointer (some ⟨g, 0, none⟩)] 23).addBlk [.int .i64 (a : Int)] 3
  simp only [World.size_alloc] at A4
  have I0 : Hid (IG w.heap.size (w.heap.size + 1) (w.heap.size + 1 + 1) (w.heap.size + 1 + 1 + 1) g a lim base [] ((((w.alloc (.cells #[.int .i64 lim] 3)).alloc (.cells #[.slice none 0 0] 37)).alloc (.cells #[.pointer (some ⟨g, 0, none⟩)] 23)).alloc (.cells #[.int .i64 (a : Int)] 3))) := hid ⟨.slice none 0 0, by
    refine (A4.addRow0 (e := 51) (size := 3)).perm ?_
    simp only [partsG, List.map_nil, List.nil_append]
    exact ((List.Perm.cons _ ((List.perm_middle (l₁ := [_, _]) (a := blkC (w.heap.size + 1) [.slice none 0 0] 37)))).trans (List.Perm.swap _ _ _))⟩
  have d0 : (lim == 0) = false := by simpa using hlim
  clear hA A4 hbl
  refine (callsIn_wide (n := 9)).1 ?_
  refine callsIn_of_wp_marks Try.func20 rfl trivial ?_ rfl
  simp only [Try.ntmps20, List.size_toArray, List.length_cons, List.length_nil, Nat.reduceAdd, Nat.reduceSub, Array.replicate_succ, Array.replicate_zero, List.push_toArray, List.append_toArray, List.nil_append, List.cons_append]
  gi_wp2
  refine ⟨trivial, (callsIn_wide.2 (Since_any (g := g) (at_ := at_) ha)).mono ?_⟩
  rintro e w' ⟨rfl, rfl⟩
  gi_wp2
  have hsz : ((((w.alloc (.cells #[.int .i64 lim] 3)).alloc (.cells #[.slice none 0 0] 37)).alloc (.cells #[.pointer (some ⟨g, 0, none⟩)] 23)).alloc (.cells #[.int .i64 (a : Int)] 3)).heap.size = w.heap.size + 1 + 1 + 1 + 1 := by simp
  generalize ((((w.alloc (.cells #[.int .i64 lim] 3)).alloc (.cells #[.slice none 0 0] 37)).alloc (.cells #[.pointer (some ⟨g, 0, none⟩)] 23)).alloc (.cells #[.int .i64 (a : Int)] 3)) = w4 at hsz I0 ⊢
  have HSZ := hid hsz
  have hbb : ∀ d ∈ base, ∀ k ∈ d.fp, k < w4.heap.size := fun d hd k hk => by have := BL.out d hd k hk; omega
  have b0 : w.heap.size < w4.heap.size := by omega
  have b1 : w.heap.size + 1 < w4.heap.size := by omega
  have b2 : w.heap.size + 1 + 1 < w4.heap.size := by omega
  have b3 : w.heap.size + 1 + 1 + 1 < w4.heap.size := by omega
  refine range_good (P := Try.prog) (n := 9) (by omega) (gf := 39) (lb := #[.pointer (some ⟨w.heap.size + 1 + 1, 0, none⟩), .pointer (some ⟨w.heap.size + 1 + 1 + 1, 0, none⟩)]) rfl (enters_of Try.func39 (by kernel_rfl) rfl)
    (encs := fun x : Xs => #[x.enc]) (Kp := KeepT (w.heap.size + 1 + 1 + 1)) (Fresh := fun _ x W0 W1 => x.Fresh W0 W1) (S := fun ys => ys.map Xs.key = sel N (2 ^ h) a (vis N a h 1)) (Sp := fun ys => ys.map Xs.key <+: sel N (2 ^ h) a (vis N a h 1)) (Nm := 128) ?seq
    (fun h k => h.then k) (fun W l o o' h1 h2 => KeepT.put W l o o' h1 h2) (fun _ => rfl)
    (fun pre W => ((pre.length : Int) < lim ∨ lim < 0) ∧ IG w.heap.size (w.heap.size + 1) (w.heap.size + 1 + 1) (w.heap.size + 1 + 1 + 1) g a lim base pre W)
    (fun c pre W => c = .exit 0 ∧ (pre.length : Int) = lim ∧ IG w.heap.size (w.heap.size + 1) (w.heap.size + 1 + 1) (w.heap.size + 1 + 1 + 1) g a lim base pre W)
    (fun pre x W => ((pre.length : Int) < lim ∨ lim < 0) ∧ IG2 w.heap.size (w.heap.size + 1) (w.heap.size + 1 + 1) (w.heap.size + 1 + 1 + 1) g a lim base pre x W)
    (fun s A C row hs hg hr => ⟨hs.1, IG_own hbb b0 b1 b2 b3 s A C row hs.2 hg hr⟩)
    (fun c s A C row hs hg hr => ⟨hs.1, hs.2.1, IG_own hbb b0 b1 b2 b3 s A C row hs.2.2 hg hr⟩)
    (fun pre s A C row hs hg hr => ⟨hs.1, IG2_own pre hbb b0 b1 b2 b3 s A C row hs.2 hg hr⟩) (fun pre x W0 W1 h => h.1) (fun pre x W0 W1 h hf => ⟨h.1, IG_fresh h.2 hf⟩)
    ⟨by simp only [List.length_nil]; omega, I0.out⟩
    (fun x a' W => ∃ Bx, W.heap[Bx]? = some (.cells #[.int .i64 (x.num : Int), .int .i64 (x.at_ : Int), .slice x.ao x.len x.cap] 51 (0, 0)) ∧ a' = { tmps := #[.pointer (some ⟨g, 0, none⟩), .int .i64 at_, .int .i64 lim, undef, undef, .pointer (some ⟨w.heap.size, 0, none⟩), .slice none 0 0, .pointer (some ⟨w.heap.size + 1, 0, none⟩), .pointer (some ⟨Bx, 0, none⟩), .int .i64 lim, .bool false, .pointer (some ⟨g, 0, none⟩), .int .i64 at_, .func (.func 39) #[] #[.pointer (some ⟨w.heap.size + 1 + 1, 0, none⟩), .pointer (some ⟨w.heap.size + 1 + 1 + 1, 0, none⟩)], .agg #[.int .i64 (x.num : Int), .int .i64 (x.at_ : Int), .slice x.ao x.len x.cap], undef, undef, undef, undef, undef, undef, undef, undef, undef], defers := [] })
    (fun a' x A C row hs hg hr => by
      obtain ⟨Bx, h1, h2⟩ := hs
      refine ⟨Bx, (hg.block Bx (Array.getElem?_eq_some_iff.1 h1).1 (fun e => ?_)).trans h1, h2⟩
      obtain ⟨_, o, ho, hoc⟩ := hr Bx e.symm
      rw [h1] at ho; cases ho; cases hoc)
    ?assign ?body ?done ?stop
  case seq =>
    intro l J Jx W hbW hJ hY h0
    obtain ⟨v, hA0⟩ := I0.out
    rw [hbase.out] at hA0
    have hA1 := hA0.later hbW
    have eBb : W.heap[w.heap.size + 1 + 1]? = some (.cells [.pointer (some ⟨g, 0, none⟩)].toArray 23 (0, 0)) := hA1.blk (by simp [partsG])
    have eBa : W.heap[w.heap.size + 1 + 1 + 1]? = some (.cells [.int .i64 (a : Int)].toArray 3 (0, 0)) := hA1.blk (by simp [partsG])
    have eg : W.heap[g]? = some (.cells (bookL n (2 ^ h) ps).toArray 70 (0, 0)) := hA1.blk (by simp [partsG])
    have hp : ∀ x ∈ P, W.heap[x.1]? = some x.2 := fun x hx => ((hA1.mem (c := poolC P) (by simp [partsG])).2.1 x hx).1
    exact callsIn_wide.2 (since39 J Jx _ (fun T By A B h k => h.keep (pbOf_PB P) k) (by rw [cell_at eBb]; rfl) (by rw [cell_at eBa]; rfl) eg hp hB hh hJ (fun pre x W0 W1 h1 h2 _ h3 => hY pre x W0 W1 h1 h2 h3) h0)
  case assign =>
    rintro l pre x W K ⟨hfc, v, hA⟩ hK
    have HFC := hid hfc
    clear hfc
    have HA := hid hA
    have HK := hid hK
    clear hA hK
    simp only [Xs.enc]
    gi_wp2
    refine HK.out _ _ ⟨by simp, fun k o _ hk _ => (Below.heap_alloc _ _ _ (Array.getElem?_eq_some_iff.1 hk).1).trans hk⟩ (KeepT.turn (World.grownBy_alloc W _ none) (fun r e => by cases e)) ⟨HFC.out, v, HA.out.alloc _⟩ ⟨W.heap.size, heap_alloc_new W _, rfl⟩
  case body =>
    rintro l pre x a' W hl ⟨r, hr⟩ ⟨hfc, v, hA⟩ ⟨Bx, hBx, rfl⟩ hlt
    have HFC := hid hfc
    clear hfc
    have eL1 : W.heap[w.heap.size + 1]? = some (.cells [v].toArray 37 (0, 0)) := hA.blk (by simp [partsG])
    have c1 : W.cell? ⟨w.heap.size + 1, 0, none⟩ = some v := by rw [cell_at eL1]; rfl
    have eL0 : W.heap[w.heap.size]? = some (.cells [.int .i64 lim].toArray 3 (0, 0)) := hA.blk (by simp [partsG])
    have c0 : W.cell? ⟨w.heap.size, 0, none⟩ = some (.int .i64 lim) := by rw [cell_at eL0]; rfl
    have x0 : W.cell? ⟨Bx, 0, none⟩ = some (.int .i64 (x.num : Int)) := by rw [cell_at hBx]; rfl
    have x1 : W.cell? ⟨Bx, 1, none⟩ = some (.int .i64 (x.at_ : Int)) := by rw [cell_at hBx]; rfl
    have x2 : W.cell? ⟨Bx, 2, none⟩ = some (.slice x.ao x.len x.cap) := by rw [cell_at hBx]; rfl
    obtain ⟨i1, hi1, hz0, hz1, hz2⟩ := info_parts Try.info51
    have hrow0 : W.ownsRow 0 51 3 v pre.length (flatX pre) := (hA.mem (c := rowC 51 3 v pre.length (flatX pre)) (by simp [partsG])).2.1
    obtain ⟨oo, oc, rfl⟩ := owns_form hrow0
    have A1 := hA.alloc (.cells x.cells.toArray 51)
    have hrow : (W.alloc (.cells x.cells.toArray 51)).ownsRow 0 51 3 (.slice oo pre.length oc) pre.length (flatX pre) := (A1.mem (c := rowC 51 3 (.slice oo pre.length oc) pre.length (flatX pre)) (by simp [partsG])).2.1
    have hcell : ∀ j u, x.cells[j]? = some u → (W.alloc (.cells x.cells.toArray 51)).cell? ((⟨W.heap.size, 0, none⟩ : Addr).add j) = some u := fun j u hu => by
      rw [Addr.add_lit, cell_at (heap_alloc_new W _)]
      simpa using hu
    have hone : ∀ u ∈ x.cells, u.oneCell' = true := fun u hu => by
      simp only [Xs.cells, List.mem_cons, List.not_mem_nil, or_false] at hu
      rcases hu with rfl | rfl | rfl <;> rfl
    have lL1 : w.heap.size + 1 < W.heap.size := (Array.getElem?_eq_some_iff.1 eL1).1
    have lL0 : w.heap.size < W.heap.size := (Array.getElem?_eq_some_iff.1 eL0).1
    have A1 := hid A1
    have HR := hid hrow
    have HCL := hid hcell
    have HO := hid hone
    have HLT := hid hlt
    have HR0 := hid hrow0
    simp only [Xs.cells] at A1 HR HCL HO
    clear hA eL1 eL0 hBx hrow hcell hone hlt I0 hbb b0 b1 b2 b3 hsz hrow0
    have key : ∀ (v' : Value) (w3 : World), w3.ownsRow 0 51 3 v' (pre.length + 1) (flatX pre ++ [.int .i64 (x.num : Int), .int .i64 (x.at_ : Int), .slice x.ao x.len x.cap]) → (W.alloc (.cells [.int .i64 (x.num : Int), .int .i64 (x.at_ : Int), .slice x.ao x.len x.cap].toArray 51)).grownBy w3 (Value.slice oo pre.length oc).ownBlock → (v'.ownBlock = (Value.slice oo pre.length oc).ownBlock ∨ v'.ownBlock = some (W.alloc (.cells [.int .i64 (x.num : Int), .int .i64 (x.at_ : Int), .slice x.ao x.len x.cap].toArray 51)).heap.size) →
        ∃ o2 c2, v' = .slice o2 (pre.length + 1) c2 ∧ w3.cell? ⟨w.heap.size + 1, 0, none⟩ = some (.slice oo pre.length oc) ∧ w3.frozen? ⟨w.heap.size + 1, 0, none⟩ = false ∧ w3.cell? ⟨w.heap.size, 0, none⟩ = some (.int .i64 lim) ∧
          Hid (IG w.heap.size (w.heap.size + 1) (w.heap.size + 1 + 1) (w.heap.size + 1 + 1 + 1) g a lim base (pre ++ [x]) (w3.setCell ⟨w.heap.size + 1, 0, none⟩ v') ∧ KeepsFrom w4.heap.size W (w3.setCell ⟨w.heap.size + 1, 0, none⟩ v') ∧ KeepT (w.heap.size + 1 + 1 + 1) W (w3.setCell ⟨w.heap.size + 1, 0, none⟩ v')) := by
      intro v' w3 hown hgr hat
      obtain ⟨o2, c2, hv'⟩ := owns_form hown
      have A2 := (A1.out.swap).rowGrow hown hgr hat
      have e1 : w3.heap[w.heap.size + 1]? = some (.cells [.slice oo pre.length oc].toArray 37 (0, 0)) := A2.blk (by simp)
      have e0 : w3.heap[w.heap.size]? = some (.cells [.int .i64 lim].toArray 3 (0, 0)) := A2.blk (by simp)
      refine ⟨o2, c2, hv', by rw [cell_at e1]; rfl, free_at e1 0, by rw [cell_at e0]; rfl, hid ⟨⟨v', ?_⟩, ?_, ?_⟩⟩
      · have A3 := A2.swap.setBlk 0 v'
        refine A3.perm ?_
        simp only [partsG, List.set_cons_zero, List.length_append, List.length_singleton, flatX_append, List.map_append, List.map_cons, List.map_nil, List.append_assoc, List.cons_append]
        exact .cons _ (.cons _ List.perm_middle.symm)
      · refine KeepsFrom.then (keeps_grown (World.grownBy_alloc W _ none) (fun r e => by cases e)) (KeepsFrom.then (keeps_grown hgr (fun r e => ?_)) (keeps_grown (grownBy_setCell' w3 _ v') (fun r e => by cases e; exact ⟨_, e1, rfl⟩)))
        exact rowC_cells (A1.out.mem (c := rowC 51 3 (.slice oo pre.length oc) pre.length (flatX pre)) (by simp [partsG])).2.1 r (by simp [rowC, e])
      · refine KeepT.then (KeepT.turn (World.grownBy_alloc W _ none) (fun r e => by cases e)) (KeepT.then (KeepT.turn hgr (fun r e => ?_)) (KeepT.turn (grownBy_setCell' w3 _ v') (fun r e => by
          cases e
          refine ⟨by omega, fun cs t fr h => ?_⟩
          rw [e1] at h; cases h; simp)))
        have hro := (A1.out.mem (c := rowC 51 3 (.slice oo pre.length oc) pre.length (flatX pre)) (by simp [partsG])).2.1
        have hro' : World.ownsRow _ 0 51 3 (.slice oo pre.length oc) pre.length (flatX pre) := hro
        rcases hro'.2 with ⟨e2, _⟩ | ⟨gg, cap, cur, e2, _, hgg, _⟩
        · rw [e2] at e; simp [Value.ownBlock] at e
        · rw [e2] at e
          simp [Value.ownBlock] at e
          subst e
          refine ⟨fun e3 => ?_, fun cs t fr h => by rw [hgg] at h; cases h; simp⟩
          have h3 := A1.out.blk (g := w.heap.size + 1 + 1 + 1) (vs := [.int .i64 (a : Int)]) (t := 3) (by simp [partsG])
          rw [← e3, hgg] at h3
          cases h3
    have KEY := hid key
    clear key
    by_cases hc : ((pre.length : Int) + 1) = lim
    · have dc : decide ((pre.length : Int) + 1 = lim) = true := by simpa using hc
      have dc2 : ((pre.length : Int) + 1 == lim) = true := by simpa using hc
      have HC := hid hc
      clear hc
      gi_wp2_with (gi_at_builtin; refine wpListIn_append_own_at _ rfl (.tmp 15) (.tmp 17) 37 rfl 0 51 i1 (.agg #[.int .i64 0, .int .i64 0, .slice none 0 0]) 3 40 Try.underlying37 hi1 hz0 hz1 hz2 rfl (by decide) _ _ _ rfl HR.out ⟨W.heap.size, 0, none⟩ 1 1 [.int .i64 (x.num : Int), .int .i64 (x.at_ : Int), .slice x.ao x.len x.cap] rfl rfl HCL.out HO.out (by have := HLT.out; unfold maxLen; omega) (by have := HLT.out; omega) (by omega) ?_; intro v' w3 hown hgr hnil hat; (obtain ⟨o2, c2, hv2, k1, k2, k3, HF⟩ := KEY.out v' w3 hown hgr hat); subst hv2; clear hown hgr hnil hat)
      exact ⟨HF.out.2.1, rfl, by rw [List.length_append]; simpa using HC.out, HF.out.1⟩
    · have dc : decide ((pre.length : Int) + 1 = lim) = false := by simpa using hc
      have dc2 : ((pre.length : Int) + 1 == lim) = false := by simpa using hc
      have HC := hid hc
      clear hc
      gi_wp2_with (gi_at_builtin; refine wpListIn_append_own_at _ rfl (.tmp 15) (.tmp 17) 37 rfl 0 51 i1 (.agg #[.int .i64 0, .int .i64 0, .slice none 0 0]) 3 40 Try.underlying37 hi1 hz0 hz1 hz2 rfl (by decide) _ _ _ rfl HR.out ⟨W.heap.size, 0, none⟩ 1 1 [.int .i64 (x.num : Int), .int .i64 (x.at_ : Int), .slice x.ao x.len x.cap] rfl rfl HCL.out HO.out (by have := HLT.out; unfold maxLen; omega) (by have := HLT.out; omega) (by omega) ?_; intro v' w3 hown hgr hnil hat; (obtain ⟨o2, c2, hv2, k1, k2, k3, HF⟩ := KEY.out v' w3 hown hgr hat); subst hv2; clear hown hgr hnil hat)
      exact ⟨HF.out.2.1, HF.out.2.2, by rw [List.length_append]; have h1 := HFC.out; have h2 := HC.out; simp only [List.length_singleton]; omega, HF.out.1⟩
  case done =>
    rintro D ys W hD hS ⟨hne, v, hA⟩ hK
    have eL1 : W.heap[w.heap.size + 1]? = some (.cells [v].toArray 37 (0, 0)) := hA.blk (by simp [partsG])
    have c1 : W.cell? ⟨w.heap.size + 1, 0, none⟩ = some v := by rw [cell_at eL1]; rfl
    have AF := hA.record (grownBy_putObj' W D (.deferred none)) (B := w4.heap.size) (fun r e => by cases e; exact ⟨hD, _, hK, rfl⟩) (partsG_cells hA (dats_of ys) hbb b0 b1 b2 b3)
    have AF := hid AF
    have HK := hid hK
    have HS := hid hS
    have HNE := hid hne
    clear hA hK hS hne eL1 I0 hbb b0 b1 b2 b3 hsz
    obtain ⟨o1, o2, o3, rfl⟩ : ∃ o1 o2 o3, v = .slice o1 o2 o3 := by
      obtain ⟨o1, o3, e⟩ := owns_form (show _ from (AF.out.mem (c := rowC 51 3 v ys.length (flatX ys)) (by simp [partsG])).2.1)
      exact ⟨_, _, _, e⟩
    gi_wp2
    refine ⟨by simp, .inl ⟨_, _, rfl, run_takeDeferred HK.out, ?_⟩⟩
    refine ⟨_, results_tmp rfl _ _ _, _, ys, rfl, .inl ⟨HS.out, HNE.out⟩, ?_⟩
    have h1 := AF.out.tail
    refine ⟨h1.1, fun d hd => h1.2.1 d ?_, ?_⟩
    · simp only [List.mem_append] at hd ⊢
      rcases hd with hd | hd
      · exact .inl hd
      · exact .inr (by simp [hd])
    · exact (((h1.2.2.mid).mid).mid)
  case stop =>
    rintro D c ys W hD hS ⟨rfl, hlen, v, hA⟩ hK
    have eL1 : W.heap[w.heap.size + 1]? = some (.cells [v].toArray 37 (0, 0)) := hA.blk (by simp [partsG])
    have c1 : W.cell? ⟨w.heap.size + 1, 0, none⟩ = some v := by rw [cell_at eL1]; rfl
    have AF := hA.record (grownBy_putObj' W D (.deferred none)) (B := w4.heap.size) (fun r e => by cases e; exact ⟨hD, _, hK, rfl⟩) (partsG_cells hA (dats_of ys) hbb b0 b1 b2 b3)
    have AF := hid AF
    have HK := hid hK
    have HS := hid hS
    have HL := hid hlen
    clear hA hK hS hlen eL1 I0 hbb b0 b1 b2 b3 hsz
    obtain ⟨o1, o2, o3, rfl⟩ : ∃ o1 o2 o3, v = .slice o1 o2 o3 := by
      obtain ⟨o1, o3, e⟩ := owns_form (show _ from (AF.out.mem (c := rowC 51 3 v ys.length (flatX ys)) (by simp [partsG])).2.1)
      exact ⟨_, _, _, e⟩
    gi_wp2
    refine ⟨by simp, .inl ⟨_, _, rfl, run_takeDeferred HK.out, ?_⟩⟩
    refine ⟨_, results_tmp rfl _ _ _, _, ys, rfl, .inr ⟨HS.out, HL.out⟩, ?_⟩
    have h1 := AF.out.tail
    refine ⟨h1.1, fun d hd => h1.2.1 d ?_, ?_⟩
    · simp only [List.mem_append] at hd ⊢
      rcases hd with hd | hd
      · exact .inl hd
      · exact .inr (by simp [hd])
    · exact (((h1.2.2.mid).mid).mid)


theorem given_zero {w : World} {g : Nat} {at_ : Int} : Calls Try.prog 20 #[.pointer (some ⟨g, 0, none⟩), .int .i64 at_, .int .i64 0] w fun e w' => e = .returned (.slice none 0 0) ∧ Below w.heap.size w w' := by
  go_enter Try.func20, Try.ntmps20
  go_wp2
  go_ret
  exact ⟨rfl, belowT (ba w _) (ba _ _)⟩
end Go.Proofs.Ytaomhahmpbfjhaa

import Derived.Test.YtafickhhdemjnaaGreatDoorJ21
import Derived.Test.YtafickhhdemjnaaGreatDoorEg7
namespace Go.Proofs.YtafickhhdemjnaaGreatDoor
open Go.RowKit Go.Shelf Go.Sort
set_option linter.unusedVariables false
attribute [local go_sem] Oper.semAt_some

theorem cell_inK {P o : Nat} {C : List Value} {t : TypeId} {cs : List Comp} {w : World} {v : Value} (A : All cs w) (hm : blkC P C t ∈ cs) (h : C[o]? = some v) : w.cell? ⟨P, o, none⟩ = some v := by
  rw [cell_at (A.blk hm), List.getElem?_toArray]; exact h
/-- The parts of 'given' between two rounds. -/
abbrev partsS (L1 Bb Ba g a : Nat) (base : List Comp) (v : Value) (dats : List Comp) (pre : List Xs) : List Comp :=
  blkC L1 [v] 37 :: rowC 78 3 v pre.length (flatX pre) :: (dats ++ blkC Ba [.int .i64 (a : Int)] 3 :: blkC Bb [.pointer (some ⟨g, 0, none⟩)] 82 :: base)

theorem partsS_cells {L1 Bb Ba g a : Nat} {base : List Comp} {v : Value} {dats : List Comp} {pre : List Xs} {W : World} {B : Nat} (h : All (partsS L1 Bb Ba g a base v dats pre) W) (hd : ∀ d ∈ dats, ∃ x, d = datC x) (hb : ∀ d ∈ base, ∀ k ∈ d.fp, k < B) (h1 : L1 < B) (h2 : Bb < B) (h3 : Ba < B) :
    ∀ d ∈ partsS L1 Bb Ba g a base v dats pre, (∀ k ∈ d.fp, k < B) ∨ (∀ k ∈ d.fp, ∃ o : Obj, W.heap[k]? = some o ∧ o.isCells = true) := by
  intro d hm
  have hh := (h.mem hm).2.1
  simp only [partsS, List.mem_cons, List.mem_append] at hm
  rcases hm with rfl | rfl | hm | rfl | rfl | hm
  · exact Or.inl (fun k hk => by simp [blkC] at hk; omega)
  · exact Or.inr (rowC_cells hh)
  · obtain ⟨x, rfl⟩ := hd d hm
    exact Or.inr (rowC_cells hh)
  · exact Or.inl (fun k hk => by simp [blkC] at hk; omega)
  · exact Or.inl (fun k hk => by simp [blkC] at hk; omega)
  · exact Or.inl (hb d hm)

/-- Between two rounds. -/
def IS (L1 Bb Ba g a : Nat) (base : List Comp) (pre : List Xs) (W : World) : Prop :=
  ∃ v, All (partsS L1 Bb Ba g a base v (pre.map datC) pre) W
/-- One more sheet was handed out. -/
def IS2 (L1 Bb Ba g a : Nat) (base : List Comp) (pre : List Xs) (x : Xs) (W : World) : Prop :=
  ∃ v, All (partsS L1 Bb Ba g a base v (datC x :: pre.map datC) pre) W

theorem IS_own {L1 Bb Ba g a B : Nat} {base : List Comp} (hb : ∀ d ∈ base, ∀ k ∈ d.fp, k < B) (h1 : L1 < B) (h2 : Bb < B) (h3 : Ba < B) : OwnFrom B (IS L1 Bb Ba g a base) := by
  rintro pre A C row ⟨v, hA⟩ hg hr
  exact ⟨v, hA.record hg hr (partsS_cells hA (dats_of pre) hb h1 h2 h3)⟩
theorem IS2_own {L1 Bb Ba g a B : Nat} {base : List Comp} (pre : List Xs) (hb : ∀ d ∈ base, ∀ k ∈ d.fp, k < B) (h1 : L1 < B) (h2 : Bb < B) (h3 : Ba < B) : OwnFrom B (IS2 L1 Bb Ba g a base pre) := by
  rintro x A C row ⟨v, hA⟩ hg hr
  refine ⟨v, hA.record hg hr (partsS_cells hA (fun d hd => ?_) hb h1 h2 h3)⟩
  rcases List.mem_cons.1 hd with rfl | hd
  · exact ⟨x, rfl⟩
  · exact dats_of pre d hd

theorem IS_fresh {L1 Bb Ba g a : Nat} {base : List Comp} {pre : List Xs} {x : Xs} {W0 W1 : World} (h : IS L1 Bb Ba g a base pre W0) (hf : x.Fresh W0 W1) : IS2 L1 Bb Ba g a base pre x W1 := by
  obtain ⟨v, hA⟩ := h
  refine ⟨v, ?_⟩
  have h2 : All (datC x :: partsS L1 Bb Ba g a base v (pre.map datC) pre) W1 := by
    refine hA.add (Fr.below hf.1) (rowC_good _ _ _ _ _) (owns_zero hf.2) (fun k hk => ?_)
    have hk' : x.v.ownBlock = some k := by simpa [datC, rowC] using hk
    exact World.ownsRow.lt hf.2 k hk'
  refine h2.perm ?_
  exact (List.Perm.swap _ _ _).trans (.cons _ (List.Perm.swap _ _ _))


set_option maxRecDepth 1000000 in
set_option maxHeartbeats 4000000 in
theorem since_any {w : World} {X o g n h : Nat} {XC : List Value} {t : TypeId} {ps : List Nat} {N : Nodes} {P : Pool} {cs : List Comp} {S : Sheets} {at_ : Int} (hA : All (poolC P :: blkC g (bookL n (2 ^ h) ps) 180 :: cs) w) (hX : blkC X XC t ∈ cs) (h1 : XC[o + 1]? = some (.pointer (some ⟨g, 0, none⟩))) (hB : Bk P n (2 ^ h) ps N S) (hh : h ≤ 6) :
    Calls Tryz.prog 49 #[.pointer (some ⟨X, o, none⟩), .int .i64 at_] w fun e w' => ∃ v ys, e = .returned v ∧ ys.map Xs.key = sel N (2 ^ h) at_.toNat (vis N at_.toNat h 1) ∧ All (rowC 78 3 v ys.length (flatX ys) :: (ys.map datC ++ poolC P :: blkC g (bookL n (2 ^ h) ps) 180 :: cs)) w' := by
  have lX : X < w.heap.size := (hA.mem (c := blkC X XC t) (by simp [hX])).2.2 X (by simp [blkC])
  have x1 : (w.alloc (.cells #[.slice none 0 0] 37)).cell? ⟨X, o + 1, none⟩ = some (.pointer (some ⟨g, 0, none⟩)) := cell_inK (P := X) (o := o + 1) (C := XC) (t := t) (hA.alloc _) (by simp [hX]) h1
  clear hX h1
  obtain ⟨a, ha⟩ : ∃ a, Hid (a = at_.toNat) := ⟨_, hid rfl⟩
  rw [← ha.out]
  obtain ⟨base, hbase⟩ : ∃ base, Hid (base = poolC P :: blkC g (bookL n (2 ^ h) ps) 180 :: cs) := ⟨_, hid rfl⟩
  rw [← hbase.out] at hA ⊢
  have HA := hid hA
  have hbl : ∀ d ∈ base, ∀ k ∈ d.fp, k < w.heap.size := fun d hd => (hA.mem hd).2.2
  have BL := hid hbl
  have A4 := ((hA.addBlk [.slice none 0 0] 37).addBlk [.pointer (some ⟨g, 0, none⟩)] 82).addBlk [.int .i64 (a : Int)] 3
  simp only [World.size_alloc] at A4
  have I0 : Hid (IS w.heap.size (w.heap.size + 1) (w.heap.size + 1 + 1) g a base [] (((w.alloc (.cells #[.slice none 0 0] 37)).alloc (.cells #[.pointer (some ⟨g, 0, none⟩)] 82)).alloc (.cells #[.int .i64 (a : Int)] 3))) := hid ⟨.slice none 0 0, by
    refine (A4.addRow0 (e := 78) (size := 3)).perm ?_
    simp only [partsS, List.map_nil, List.nil_append]
    exact ((List.Perm.cons _ ((List.perm_middle (l₁ := [_, _]) (a := blkC w.heap.size [.slice none 0 0] 37)))).trans (List.Perm.swap _ _ _))⟩
  clear hA A4 hbl
  refine (callsIn_wide (n := 9)).1 ?_
  refine callsIn_of_wp_marks Tryz.func49 rfl trivial ?_ rfl
  simp only [Tryz.ntmps49, List.size_toArray, List.length_cons, List.length_nil, Nat.reduceAdd, Nat.reduceSub, Array.replicate_succ, Array.replicate_zero, List.push_toArray, List.append_toArray, List.nil_append, List.cons_append]
  gi_wp2
  refine ⟨trivial, (callsIn_wide.2 (Since_any (g := g) (at_ := at_) ha)).mono ?_⟩
  rintro e w' ⟨rfl, rfl⟩
  gi_wp2
  have hsz : (((w.alloc (.cells #[.slice none 0 0] 37)).alloc (.cells #[.pointer (some ⟨g, 0, none⟩)] 82)).alloc (.cells #[.int .i64 (a : Int)] 3)).heap.size = w.heap.size + 1 + 1 + 1 := by simp
  generalize (((w.alloc (.cells #[.slice none 0 0] 37)).alloc (.cells #[.pointer (some ⟨g, 0, none⟩)] 82)).alloc (.cells #[.int .i64 (a : Int)] 3)) = w4 at hsz I0 ⊢
  have HSZ := hid hsz
  have hbb : ∀ d ∈ base, ∀ k ∈ d.fp, k < w4.heap.size := fun d hd k hk => by have := BL.out d hd k hk; omega
  have b1 : w.heap.size < w4.heap.size := by omega
  have b2 : w.heap.size + 1 < w4.heap.size := by omega
  have b3 : w.heap.size + 1 + 1 < w4.heap.size := by omega
  refine range_good (P := Tryz.prog) (n := 9) (by omega) (gf := 110) (lb := #[.pointer (some ⟨w.heap.size + 1, 0, none⟩), .pointer (some ⟨w.heap.size + 1 + 1, 0, none⟩)]) rfl (enters_of Tryz.func110 (by kernel_rfl) rfl)
    (encs := fun x : Xs => #[x.enc]) (Kp := KeepT (w.heap.size + 1 + 1)) (Fresh := fun _ x W0 W1 => x.Fresh W0 W1) (S := fun ys => ys.map Xs.key = sel N (2 ^ h) a (vis N a h 1)) (Sp := fun ys => ys.map Xs.key <+: sel N (2 ^ h) a (vis N a h 1)) (Nm := 128) ?seq
    (fun h k => h.then k) (fun W l o o' h1 h2 => KeepT.put W l o o' h1 h2) (fun _ => rfl)
    (fun pre W => IS w.heap.size (w.heap.size + 1) (w.heap.size + 1 + 1) g a base pre W)
    (fun c pre W => False)
    (IS2 w.heap.size (w.heap.size + 1) (w.heap.size + 1 + 1) g a base)
    (fun s A C row hs hg hr => IS_own hbb b1 b2 b3 s A C row hs hg hr)
    (fun c s A C row hs hg hr => hs.elim)
    (fun pre => IS2_own pre hbb b1 b2 b3) (fun pre x W0 W1 h => h.1) (fun pre x W0 W1 h hf => IS_fresh h hf)
    I0.out
    (fun x a' W => ∃ Bx, W.heap[Bx]? = some (.cells #[.int .i64 (x.num : Int), .int .i64 (x.at_ : Int), .slice x.ao x.len x.cap] 78 (0, 0)) ∧ a' = { tmps := #[.pointer (some ⟨X, o, none⟩), .int .i64 at_, undef, undef, .slice none 0 0, .pointer (some ⟨w.heap.size, 0, none⟩), .pointer (some ⟨Bx, 0, none⟩), .pointer (some ⟨X, o, none⟩), .pointer (some ⟨X, o, none⟩), .pointer (some ⟨X, o + 1, none⟩), .pointer (some ⟨g, 0, none⟩), .int .i64 at_, .func (.func 110) #[] #[.pointer (some ⟨w.heap.size + 1, 0, none⟩), .pointer (some ⟨w.heap.size + 1 + 1, 0, none⟩)], .agg #[.int .i64 (x.num : Int), .int .i64 (x.at_ : Int), .slice x.ao x.len x.cap], undef, undef, undef, undef, undef], defers := [] })
    (fun a' x A C row hs hg hr => by
      obtain ⟨Bx, h1, h2⟩ := hs
      refine ⟨Bx, (hg.block Bx (Array.getElem?_eq_some_iff.1 h1).1 (fun e => ?_)).trans h1, h2⟩
      obtain ⟨_, o, ho, hoc⟩ := hr Bx e.symm
      rw [h1] at ho; cases ho; cases hoc)
    ?assign ?body ?done ?stop
  case seq =>
    intro l J Jx W hbW hJ hY h0
    obtain ⟨v, hA0⟩ := I0.out
    rw [hbase.out] at hA0
    have hA1 := hA0.later hbW
    have eBb : W.heap[w.heap.size + 1]? = some (.cells [.pointer (some ⟨g, 0, none⟩)].toArray 82 (0, 0)) := hA1.blk (by simp [partsS])
    have eBa : W.heap[w.heap.size + 1 + 1]? = some (.cells [.int .i64 (a : Int)].toArray 3 (0, 0)) := hA1.blk (by simp [partsS])
    have eg : W.heap[g]? = some (.cells (bookL n (2 ^ h) ps).toArray 180 (0, 0)) := hA1.blk (by simp [partsS])
    have hp : ∀ x ∈ P, W.heap[x.1]? = some x.2 := fun x hx => ((hA1.mem (c := poolC P) (by simp [partsS])).2.1 x hx).1
    exact callsIn_wide.2 (since39 J Jx _ (fun T By A B h k => h.keep (pbOf_PB P) k) (by rw [cell_at eBb]; rfl) (by rw [cell_at eBa]; rfl) eg hp hB hh hJ (fun pre x W0 W1 h1 h2 _ h3 => hY pre x W0 W1 h1 h2 h3) h0)
  case assign =>
    rintro l pre x W K ⟨v, hA⟩ hK
    have HA := hid hA
    have HK := hid hK
    clear hA hK
    simp only [Xs.enc]
    gi_wp2
    refine HK.out _ _ ⟨by simp, fun k o _ hk _ => (Below.heap_alloc _ _ _ (Array.getElem?_eq_some_iff.1 hk).1).trans hk⟩ (KeepT.turn (World.grownBy_alloc W _ none) (fun r e => by cases e)) ⟨v, HA.out.alloc _⟩ ⟨W.heap.size, heap_alloc_new W _, rfl⟩
  case body =>
    rintro l pre x a' W hl ⟨r, hr⟩ ⟨v, hA⟩ ⟨Bx, hBx, rfl⟩ hlt
    have eL1 : W.heap[w.heap.size]? = some (.cells [v].toArray 37 (0, 0)) := hA.blk (by simp [partsS])
    have c1 : W.cell? ⟨w.heap.size, 0, none⟩ = some v := by rw [cell_at eL1]; rfl
    have x0 : W.cell? ⟨Bx, 0, none⟩ = some (.int .i64 (x.num : Int)) := by rw [cell_at hBx]; rfl
    have x1 : W.cell? ⟨Bx, 1, none⟩ = some (.int .i64 (x.at_ : Int)) := by rw [cell_at hBx]; rfl
    have x2 : W.cell? ⟨Bx, 2, none⟩ = some (.slice x.ao x.len x.cap) := by rw [cell_at hBx]; rfl
    obtain ⟨i1, hi1, hz0, hz1, hz2⟩ := info_parts Tryz.info78
    have hrow0 : W.ownsRow 0 78 3 v pre.length (flatX pre) := (hA.mem (c := rowC 78 3 v pre.length (flatX pre)) (by simp [partsS])).2.1
    obtain ⟨oo, oc, rfl⟩ := owns_form hrow0
    have A1 := hA.alloc (.cells x.cells.toArray 78)
    have hrow : (W.alloc (.cells x.cells.toArray 78)).ownsRow 0 78 3 (.slice oo pre.length oc) pre.length (flatX pre) := (A1.mem (c := rowC 78 3 (.slice oo pre.length oc) pre.length (flatX pre)) (by simp [partsS])).2.1
    have hcell : ∀ j u, x.cells[j]? = some u → (W.alloc (.cells x.cells.toArray 78)).cell? ((⟨W.heap.size, 0, none⟩ : Addr).add j) = some u := fun j u hu => by
      rw [Addr.add_lit, cell_at (heap_alloc_new W _)]
      simpa using hu
    have hone : ∀ u ∈ x.cells, u.oneCell' = true := fun u hu => by
      simp only [Xs.cells, List.mem_cons, List.not_mem_nil, or_false] at hu
      rcases hu with rfl | rfl | rfl <;> rfl
    have lL1 : w.heap.size < W.heap.size := (Array.getElem?_eq_some_iff.1 eL1).1
    have A1 := hid A1
    have HR := hid hrow
    have HCL := hid hcell
    have HO := hid hone
    have HLT := hid hlt
    have HR0 := hid hrow0
    simp only [Xs.cells] at A1 HR HCL HO
    clear hA eL1 hBx hrow hcell hone hlt I0 hbb b1 b2 b3 hsz hrow0
    have key : ∀ (v' : Value) (w3 : World), w3.ownsRow 0 78 3 v' (pre.length + 1) (flatX pre ++ [.int .i64 (x.num : Int), .int .i64 (x.at_ : Int), .slice x.ao x.len x.cap]) → (W.alloc (.cells [.int .i64 (x.num : Int), .int .i64 (x.at_ : Int), .slice x.ao x.len x.cap].toArray 78)).grownBy w3 (Value.slice oo pre.length oc).ownBlock → (v'.ownBlock = (Value.slice oo pre.length oc).ownBlock ∨ v'.ownBlock = some (W.alloc (.cells [.int .i64 (x.num : Int), .int .i64 (x.at_ : Int), .slice x.ao x.len x.cap].toArray 78)).heap.size) →
        ∃ o2 c2, v' = .slice o2 (pre.length + 1) c2 ∧ w3.cell? ⟨w.heap.size, 0, none⟩ = some (.slice oo pre.length oc) ∧ w3.frozen? ⟨w.heap.size, 0, none⟩ = false ∧
          Hid (IS w.heap.size (w.heap.size + 1) (w.heap.size + 1 + 1) g a base (pre ++ [x]) (w3.setCell ⟨w.heap.size, 0, none⟩ v') ∧ KeepsFrom w4.heap.size W (w3.setCell ⟨w.heap.size, 0, none⟩ v') ∧ KeepT (w.heap.size + 1 + 1) W (w3.setCell ⟨w.heap.size, 0, none⟩ v')) := by
      intro v' w3 hown hgr hat
      obtain ⟨o2, c2, hv'⟩ := owns_form hown
      have A2 := (A1.out.swap).rowGrow hown hgr hat
      have e1 : w3.heap[w.heap.size]? = some (.cells [.slice oo pre.length oc].toArray 37 (0, 0)) := A2.blk (by simp)
      refine ⟨o2, c2, hv', by rw [cell_at e1]; rfl, free_at e1 0, hid ⟨⟨v', ?_⟩, ?_, ?_⟩⟩
      · have A3 := A2.swap.setBlk 0 v'
        refine A3.perm ?_
        simp only [partsS, List.set_cons_zero, List.length_append, List.length_singleton, flatX_append, List.map_append, List.map_cons, List.map_nil, List.append_assoc, List.cons_append]
        exact .cons _ (.cons _ List.perm_middle.symm)
      · refine KeepsFrom.then (keeps_grown (World.grownBy_alloc W _ none) (fun r e => by cases e)) (KeepsFrom.then (keeps_grown hgr (fun r e => ?_)) (keeps_grown (grownBy_setCell' w3 _ v') (fun r e => by cases e; exact ⟨_, e1, rfl⟩)))
        exact rowC_cells (A1.out.mem (c := rowC 78 3 (.slice oo pre.length oc) pre.length (flatX pre)) (by simp [partsS])).2.1 r (by simp [rowC, e])
      · refine KeepT.then (KeepT.turn (World.grownBy_alloc W _ none) (fun r e => by cases e)) (KeepT.then (KeepT.turn hgr (fun r e => ?_)) (KeepT.turn (grownBy_setCell' w3 _ v') (fun r e => by
          cases e
          refine ⟨by omega, fun cs t fr h => ?_⟩
          rw [e1] at h; cases h; simp)))
        have hro := (A1.out.mem (c := rowC 78 3 (.slice oo pre.length oc) pre.length (flatX pre)) (by simp [partsS])).2.1
        have hro' : World.ownsRow _ 0 78 3 (.slice oo pre.length oc) pre.length (flatX pre) := hro
        rcases hro'.2 with ⟨e2, _⟩ | ⟨gg, cap, cur, e2, _, hgg, _⟩
        · rw [e2] at e; simp [Value.ownBlock] at e
        · rw [e2] at e
          simp [Value.ownBlock] at e
          subst e
          refine ⟨fun e3 => ?_, fun cs t fr h => by rw [hgg] at h; cases h; simp⟩
          have h3 := A1.out.blk (g := w.heap.size + 1 + 1) (vs := [.int .i64 (a : Int)]) (t := 3) (by simp [partsS])
          rw [← e3, hgg] at h3
          cases h3
    have KEY := hid key
    clear key
    gi_wp2_with (gi_at_builtin; refine wpListIn_append_own_at _ rfl (.tmp 14) (.tmp 16) 37 rfl 0 78 i1 (.agg #[.int .i64 0, .int .i64 0, .slice none 0 0]) 3 40 Tryz.underlying37 hi1 hz0 hz1 hz2 rfl (by decide) _ _ _ rfl HR.out ⟨W.heap.size, 0, none⟩ 1 1 [.int .i64 (x.num : Int), .int .i64 (x.at_ : Int), .slice x.ao x.len x.cap] rfl rfl HCL.out HO.out (by have := HLT.out; unfold maxLen; omega) (by have := HLT.out; omega) (by omega) ?_; intro v' w3 hown hgr hnil hat; (obtain ⟨o2, c2, hv2, k1, k2, HF⟩ := KEY.out v' w3 hown hgr hat); subst hv2; clear hown hgr hnil hat)
    exact ⟨HF.out.2.1, HF.out.2.2, HF.out.1⟩
  case done =>
    rintro D ys W hD hS ⟨v, hA⟩ hK
    have eL1 : W.heap[w.heap.size]? = some (.cells [v].toArray 37 (0, 0)) := hA.blk (by simp [partsS])
    have c1 : W.cell? ⟨w.heap.size, 0, none⟩ = some v := by rw [cell_at eL1]; rfl
    have AF := hA.record (grownBy_putObj' W D (.deferred none)) (B := w4.heap.size) (fun r e => by cases e; exact ⟨hD, _, hK, rfl⟩) (partsS_cells hA (dats_of ys) hbb b1 b2 b3)
    have AF := hid AF
    have HK := hid hK
    have HS := hid hS
    clear hA hK hS eL1 I0 hbb b1 b2 b3 hsz
    obtain ⟨o1, o2, o3, rfl⟩ : ∃ o1 o2 o3, v = .slice o1 o2 o3 := by
      obtain ⟨o1, o3, e⟩ := owns_form (show _ from (AF.out.mem (c := rowC 78 3 v ys.length (flatX ys)) (by simp [partsS])).2.1)
      exact ⟨_, _, _, e⟩
    gi_wp2
    refine ⟨by simp, .inl ⟨_, _, rfl, run_takeDeferred HK.out, ?_⟩⟩
    refine ⟨_, results_tmp rfl _ _ _, _, ys, rfl, HS.out, ?_⟩
    have h1 := AF.out.tail
    refine ⟨h1.1, fun d hd => h1.2.1 d ?_, ?_⟩
    · simp only [List.mem_append] at hd ⊢
      rcases hd with hd | hd
      · exact .inl hd
      · exact .inr (by simp [hd])
    · exact ((h1.2.2.mid).mid)
  case stop =>
    rintro D c ys W hD hS hF hK
    exact hF.elim
end Go.Proofs.YtafickhhdemjnaaGreatDoor

namespace Go.Proofs.YtafickhhdemjnaaGreatDoor
open Go.RowKit
set_option linter.unusedVariables false
set_option maxRecDepth 100000

abbrev S0 : St := [none, none, none, none, none, none, none, none]
theorem S0_ok : OkS 0 S0 := by
  have no : ∀ (i : Nat) (q : Qs), S0[i]? ≠ some (some q) := by
    intro i q h
    have := List.mem_of_getElem? h
    simp at this
  exact ⟨rfl, fun i q h => absurd h (no i q), fun i j q q' h => absurd h (no i q)⟩
/-- An engine ahead of the first op. -/
def EM.zero (ev : Nat) : EM := ⟨0, 0, ev, noS, noS, S0, List.replicate 8 .zero⟩
theorem All.addPool {cs : List Comp} {w : World} (h : All cs w) : All (poolC [] :: cs) w :=
  ⟨⟨poolC_good _, fun x hx => absurd hx (by simp), fun k hk => by simp [poolC] at hk⟩, fun d hd k hk => by simp [poolC] at hk, h⟩
set_option maxRecDepth 1000000 in
set_option maxHeartbeats 1600000 in
theorem newState_any {cs : List Comp} {w : World} (A : All cs w) : Calls Tryz.prog 47 #[] w fun e w' => ∃ g Sh Rl P tp tN, e = .returned (.agg #[.int .i64 0, .pointer (some ⟨g, 0, none⟩), .pointer (some ⟨Sh, 0, none⟩), .pointer (some ⟨Rl, 0, none⟩)]) ∧ Bk P 16 16 tp tN noS ∧ All (poolC P :: blkC g (bookL 16 16 tp) 180 :: (shL Sh S0 ++ (rollL Rl (List.replicate 8 .zero) ++ cs))) w' := by
  have A1 := hid (A.addBlk [.int .i64 0, .pointer none, .pointer none, .pointer none] 88)
  obtain ⟨R, hR⟩ : ∃ R, Hid (R = w.heap.size) := ⟨_, hid rfl⟩
  rw [← hR.out] at A1
  clear A
  go_enter Tryz.func47, Tryz.ntmps47
  go_upto_region 1 with fail
  simp only [← hR.out]
  generalize w.alloc (.cells #[.int .i64 0, .pointer none, .pointer none, .pointer none] 88) = w1 at *
  clear hR
  have C76 := hid (New_all (n := 16) A1.out.addPool (by omega) (by omega))
  go_upto_region 2 with (go_at_call 76; refine C76.out.mono ?_; rintro e w2 ⟨g, rfl, P, lv, tp, tN, A2, B2, _⟩; obtain rfl := B2.lv16; have K2 := hid A2; have BK := hid B2; clear A2 B2)
  have C77 := hid (New_any K2.out)
  have PM : Hid (∀ (W : World) (Sh Rl : Nat), All (rollL Rl (List.replicate 8 .zero) ++ (blkC Sh zero32 159 :: poolC P :: blkC g (bookL 16 16 tp) 180 :: blkC R [.int .i64 0, .pointer none, .pointer none, .pointer none] 88 :: cs)) W → All (blkC R [.int .i64 0, .pointer none, .pointer none, .pointer none] 88 :: (poolC P :: blkC g (bookL 16 16 tp) 180 :: (shL Sh S0 ++ (rollL Rl (List.replicate 8 .zero) ++ cs)))) W) := hid (fun W Sh Rl h => by
    refine h.perm ?_
    have := perm_by 5 [rollL Rl (List.replicate 8 .zero), shL Sh S0, [poolC P, blkC g (bookL 16 16 tp) 180], [blkC R [.int .i64 0, .pointer none, .pointer none, .pointer none] 88], cs] [3, 2, 1, 0, 4] rfl (by decide)
    simp only [List.flatten_cons, List.flatten_nil, List.map_cons, List.map_nil, List.getD_eq_getElem?_getD, List.getElem?_cons_zero, List.getElem?_cons_succ, Option.getD_some, List.append_nil, List.cons_append, List.nil_append] at this
    exact this)
  go_wp2_with (first | (go_at_call 77; refine C77.out.mono ?_; rintro e w3 ⟨Sh, rfl, A3, _, _⟩; have K3 := hid A3; clear A3; have C78 := hid (new_any K3.out)) | (go_at_call 78; refine C78.out.mono ?_; rintro e w4 ⟨Rl, rfl, A4⟩; have K4 := hid (PM.out _ _ _ A4); have r0 := cell_in (o := 0) K4.out List.mem_cons_self rfl; have r1 := cell_in (o := 1) K4.out List.mem_cons_self rfl; have r2 := cell_in (o := 2) K4.out List.mem_cons_self rfl; have r3 := cell_in (o := 3) K4.out List.mem_cons_self rfl; have f0 := free_in K4.out List.mem_cons_self 0; have f1 := free_in K4.out List.mem_cons_self 1; have f2 := free_in K4.out List.mem_cons_self 2; have f3 := free_in K4.out List.mem_cons_self 3; have lR : R < w4.heap.size := lt_in K4.out List.mem_cons_self))
  have FIN := hid ((((K4.out.setBlk 0 (.int .i64 0)).setBlk 1 (.pointer (some ⟨g, 0, none⟩))).setBlk 2 (.pointer (some ⟨Sh, 0, none⟩))).setBlk 3 (.pointer (some ⟨Rl, 0, none⟩)))
  simp only [List.set_cons_zero, List.set_cons_succ] at FIN
  generalize (((w4.setCell ⟨R, 0, none⟩ (.int .i64 0)).setCell ⟨R, 1, none⟩ (.pointer (some ⟨g, 0, none⟩))).setCell ⟨R, 2, none⟩ (.pointer (some ⟨Sh, 0, none⟩))).setCell ⟨R, 3, none⟩ (.pointer (some ⟨Rl, 0, none⟩)) = w8 at *
  clear r0 r1 r2 r3
  have r0 := cell_in (o := 0) FIN.out List.mem_cons_self rfl
  have r1 := cell_in (o := 1) FIN.out List.mem_cons_self rfl
  have r2 := cell_in (o := 2) FIN.out List.mem_cons_self rfl
  have r3 := cell_in (o := 3) FIN.out List.mem_cons_self rfl
  refine bodyPost_ret (v := .agg #[.int .i64 0, .pointer (some ⟨g, 0, none⟩), .pointer (some ⟨Sh, 0, none⟩), .pointer (some ⟨Rl, 0, none⟩)]) (by simp only [results, Tryz.f47]; go_simp) rfl ?_
  exact ⟨g, Sh, Rl, P, tp, tN, rfl, BK.out, FIN.out.tail⟩
theorem zero_ok {ev g kg Sh Rl : Nat} {P : Pool} {tp : List Nat} {tN : Nodes} (h1 : 1 ≤ ev) (h2 : ev ≤ 64) (hB : Bk P 16 16 tp tN noS) : (EM.zero ev).Ok 0 ⟨g, kg, Sh, Rl, P, tp, tp, tN, tN⟩ :=
  ⟨hB, hB, S0_ok, rfl, fun p hp => by
    have : p = .zero := by simpa [EM.zero] using (List.mem_replicate.1 hp).2
    subst this
    exact ⟨Or.inl ⟨rfl, rfl, rfl, rfl, rfl, rfl⟩, Int.le_refl _⟩, Nat.zero_le _, h1, h2⟩
set_option maxRecDepth 1000000 in
set_option maxHeartbeats 1600000 in
theorem NewE_bad {ev : Int} {w : World} (h : ¬ (1 ≤ ev ∧ ev ≤ 64)) : Calls Tryz.prog 21 #[.int .i64 ev] w fun e w' => e = .returned (.tuple #[.pointer none, .int .i64 80]) ∧ w' = w := by
  by_cases h1 : ev < 1
  · have d1 : decide (ev < 1) = true := by simpa using h1
    clear h h1
    go_enter Tryz.func21, Tryz.ntmps21
    go_wp2
    go_ret2
    exact ⟨rfl, rfl⟩
  · have d1 : decide (ev < 1) = false := by simpa using h1
    have d2 : decide (ev > 64) = true := by simp; omega
    have d3 : decide (64 < ev) = true := by simp; omega
    clear h h1
    go_enter Tryz.func21, Tryz.ntmps21
    go_wp2
    go_ret2
    exact ⟨rfl, rfl⟩
set_option maxRecDepth 1000000 in
set_option maxHeartbeats 1600000 in
theorem NewE_any {ev : Nat} {cs : List Comp} {w : World} (h1 : 1 ≤ ev) (h2 : ev ≤ 64) (A : All cs w) : Calls Tryz.prog 21 #[.int .i64 (ev : Int)] w fun e w' => ∃ X a, e = .returned (.tuple #[.pointer (some ⟨X, 0, none⟩), .int .i64 0]) ∧ (EM.zero ev).Ok 0 a ∧ All ((EM.zero ev).L X a cs) w' := by
  have d1 : decide ((ev : Int) < 1) = false := by simp; omega
  have d2 : decide ((ev : Int) > 64) = false := by simp; omega
  have d3 : decide (64 < (ev : Int)) = false := by simp; omega
  have C47 := hid (newState_any A)
  have OK := hid (fun g kg Sh Rl P tp tN hB => zero_ok (g := g) (kg := kg) (Sh := Sh) (Rl := Rl) (P := P) (tp := tp) (tN := tN) h1 h2 hB)
  clear A h1 h2
  go_enter Tryz.func21, Tryz.ntmps21
  go_upto_region 4 with (go_at_call 47; refine C47.out.mono ?_; rintro e w2 ⟨g, Sh, Rl, P, tp, tN, rfl, B2, A2⟩; have K2 := hid A2; have BK := hid B2; clear A2 B2)
  have K3 := hid (K2.out.addBlk [.int .i64 0, .pointer (some ⟨g, 0, none⟩), .pointer (some ⟨Sh, 0, none⟩), .pointer (some ⟨Rl, 0, none⟩), .int .i64 0, .pointer none, .int .i64 (ev : Int)] 92)
  obtain ⟨X, hX⟩ : ∃ X, Hid (X = w2.heap.size) := ⟨_, hid rfl⟩
  rw [← hX.out] at K3
  simp only [← hX.out]
  generalize w2.alloc (.cells #[.int .i64 0, .pointer (some ⟨g, 0, none⟩), .pointer (some ⟨Sh, 0, none⟩), .pointer (some ⟨Rl, 0, none⟩), .int .i64 0, .pointer none, .int .i64 (ev : Int)] 92) = w3 at *
  clear hX K2
  have C48 := hid (keep_gen (X := X) (op := 0) (g := g) BK.out rfl rfl rfl rfl K3.out)
  go_wp2_with (go_at_call 48; refine C48.out.mono ?_; rintro e w4 ⟨g2, rfl, A4⟩; have K4 := hid A4; clear A4)
  go_ret2
  refine ⟨X, ⟨g, g2, Sh, Rl, P, tp, tp, tN, tN⟩, rfl, OK.out _ _ _ _ _ _ _ BK.out, ?_⟩
  refine K4.out.perm ?_
  have := perm_by 5 [[blkC X (engV 0 g Sh Rl 0 g2 ev) 92, poolC P, blkC g (bookL 16 16 tp) 180], [blkC g2 (bookL 16 16 tp) 180], shL Sh S0, rollL Rl (List.replicate 8 .zero), cs] [0, 2, 3, 1, 4] rfl (by decide)
  simp only [List.flatten_cons, List.flatten_nil, List.map_cons, List.map_nil, List.getD_eq_getElem?_getD, List.getElem?_cons_zero, List.getElem?_cons_succ, Option.getD_some, List.append_nil, List.cons_append, List.nil_append] at this
  exact this
/-- What a book's sheets are, behind an op. -/
def shs (T : Sheets) (a : Nat) : List (Nat × Nat × List UInt8) := newS T a (List.range 16)
theorem stand_any {X o g : Nat} {XC : List Value} {tp : List Nat} {tN : Nodes} {P : Pool} {T : Sheets} {cs : List Comp} {w : World} {at_ : Int} (hB : Bk P 16 16 tp tN T) (hX : blkC X XC 92 ∈ cs) (h1 : XC[o + 1]? = some (.pointer (some ⟨g, 0, none⟩))) (A : All (poolC P :: blkC g (bookL 16 16 tp) 180 :: cs) w) :
    Calls Tryz.prog 49 #[.pointer (some ⟨X, o, none⟩), .int .i64 at_] w fun e w' => ∃ v ys, e = .returned v ∧ ys.map Xs.key = shs T at_.toNat ∧ All (rowC 78 3 v ys.length (flatX ys) :: (ys.map datC ++ poolC P :: blkC g (bookL 16 16 tp) 180 :: cs)) w' := by
  have hB2 : Bk P 16 (2 ^ 4) tp tN T := hB
  refine (since_any (n := 16) (h := 4) (o := o) (at_ := at_) A hX h1 hB2 (by omega)).mono ?_
  rintro e w' ⟨v, ys, rfl, hk, hA⟩
  refine ⟨v, ys, rfl, ?_, hA⟩
  rw [hk]
  exact hB2.foundAll
set_option maxRecDepth 1000000 in
set_option maxHeartbeats 1600000 in
theorem Sheets_any {N X : Nat} {e : EM} {a : EX} {cs : List Comp} {w : World} (hE : e.Ok N a) (A : All (e.L X a cs) w) : Calls Tryz.prog 29 #[.pointer (some ⟨X, 0, none⟩)] w fun r w' => ∃ v ys, r = .returned v ∧ ys.map Xs.key = shs e.T 0 ∧ All (rowC 78 3 v ys.length (flatX ys) :: (ys.map datC ++ e.L X a cs)) w' := by
  have C49 : Hid (Calls Tryz.prog 49 #[.pointer (some ⟨X, 0, none⟩), .int .i64 0] w fun r w' => ∃ v ys, r = .returned v ∧ ys.map Xs.key = shs e.T 0 ∧ All (rowC 78 3 v ys.length (flatX ys) :: (ys.map datC ++ e.L X a cs)) w') := hid (by
    refine (stand_any (X := X) (o := 0) (at_ := 0) (XC := engV e.op a.g a.Sh a.Rl e.kop a.kg e.ev) (cs := blkC X (engV e.op a.g a.Sh a.Rl e.kop a.kg e.ev) 92 :: (shL a.Sh e.S ++ (rollL a.Rl e.ps ++ (blkC a.kg (bookL 16 16 a.kp) 180 :: cs)))) hE.bt List.mem_cons_self rfl (A.perm ((List.Perm.swap _ _ _).trans ((List.Perm.swap _ _ _).cons _)))).mono ?_
    rintro r w' ⟨v, ys, rfl, hk, h⟩
    exact ⟨v, ys, rfl, hk, h.perm ((((List.Perm.swap _ _ _).cons _).trans (List.Perm.swap _ _ _)).append_left _ |>.cons _)⟩)
  clear A hE
  go_enter Tryz.func29, Tryz.ntmps29
  go_wp2_with (go_at_call 49; refine C49.out.mono ?_; rintro r w2 ⟨v, ys, rfl, hk, A2⟩; have K2 := hid A2; have HK := hid hk; clear A2 hk)
  go_ret
  exact ⟨v, ys, rfl, HK.out, K2.out⟩
set_option maxRecDepth 1000000 in
set_option maxHeartbeats 1600000 in
theorem SinceE_any {N X : Nat} {e : EM} {a : EX} {at_ : Int} {cs : List Comp} {w : World} (hE : e.Ok N a) (A : All (e.L X a cs) w) : Calls Tryz.prog 23 #[.pointer (some ⟨X, 0, none⟩), .int .i64 at_] w fun r w' => ∃ v ys, r = .returned v ∧ ys.map Xs.key = shs e.K at_.toNat ∧ All (rowC 78 3 v ys.length (flatX ys) :: (ys.map datC ++ e.L X a cs)) w' := by
  have C49 : Hid (Calls Tryz.prog 49 #[.pointer (some ⟨X, 4, none⟩), .int .i64 at_] w fun r w' => ∃ v ys, r = .returned v ∧ ys.map Xs.key = shs e.K at_.toNat ∧ All (rowC 78 3 v ys.length (flatX ys) :: (ys.map datC ++ e.L X a cs)) w') := hid (by
    have A2 : All (poolC a.P :: blkC a.kg (bookL 16 16 a.kp) 180 :: (blkC X (engV e.op a.g a.Sh a.Rl e.kop a.kg e.ev) 92 :: blkC a.g (bookL 16 16 a.tp) 180 :: (shL a.Sh e.S ++ (rollL a.Rl e.ps ++ cs)))) w := by
      refine A.perm ?_
      have := perm_by 7 [[blkC X (engV e.op a.g a.Sh a.Rl e.kop a.kg e.ev) 92], [poolC a.P], [blkC a.g (bookL 16 16 a.tp) 180], shL a.Sh e.S, rollL a.Rl e.ps, [blkC a.kg (bookL 16 16 a.kp) 180], cs] [1, 5, 0, 2, 3, 4, 6] rfl (by decide)
      simpa [List.getD, EM.L] using this
    refine (stand_any (X := X) (o := 4) (at_ := at_) (XC := engV e.op a.g a.Sh a.Rl e.kop a.kg e.ev) hE.bk List.mem_cons_self rfl A2).mono ?_
    rintro r w' ⟨v, ys, rfl, hk, h⟩
    refine ⟨v, ys, rfl, hk, h.perm (List.Perm.cons _ (List.Perm.append_left _ ?_))⟩
    have := perm_by 7 [[poolC a.P], [blkC a.kg (bookL 16 16 a.kp) 180], [blkC X (engV e.op a.g a.Sh a.Rl e.kop a.kg e.ev) 92], [blkC a.g (bookL 16 16 a.tp) 180], shL a.Sh e.S, rollL a.Rl e.ps, cs] [2, 0, 3, 4, 5, 1, 6] rfl (by decide)
    simpa [List.getD, EM.L] using this)
  clear A hE
  go_enter Tryz.func23, Tryz.ntmps23
  go_wp2_with (go_at_call 49; refine C49.out.mono ?_; rintro r w2 ⟨v, ys, rfl, hk, A2⟩; have K2 := hid A2; have HK := hid hk; clear A2 hk)
  go_ret
  exact ⟨v, ys, rfl, HK.out, K2.out⟩
end Go.Proofs.YtafickhhdemjnaaGreatDoor

namespace Go.Proofs.YtafickhhdemjnaaGreatDoor
open Go.RowKit
set_option linter.unusedVariables false
set_option maxRecDepth 100000

set_option maxRecDepth 1000000 in
set_option maxHeartbeats 1600000 in
/-- A client's row, told by the engine. -/
theorem LastE_any {N X i : Nat} {e : EM} {a : EX} {p : Pl} {cs : List Comp} {w : World} (hE : e.Ok N a) (hp : e.ps[i]? = some p) (hi : i < 8) (A : All (e.L X a cs) w) :
    Calls Tryz.prog 25 #[.pointer (some ⟨X, 0, none⟩), .int .i64 (i : Int)] w fun r w' => ∃ ao c', r = .returned (.tuple #[rowV p.n p.a p.c p.k (.slice ao p.l.length c'), .bool p.on]) ∧ All (ownC 9 (.slice ao p.l.length c') (cellsT p.l) :: e.L X a cs) w' := by
  have A1 := hid (A.addBlk [.int .i64 0, .int .i64 0, .int .i64 0, .int .i64 0, .slice none 0 0] 60)
  obtain ⟨R, hR⟩ : ∃ R, Hid (R = w.heap.size) := ⟨_, hid rfl⟩
  rw [← hR.out] at A1
  have hpo := (hE.pok p (List.mem_of_getElem? hp)).1
  have C51 : Hid (∀ W, All (blkC R [.int .i64 0, .int .i64 0, .int .i64 0, .int .i64 0, .slice none 0 0] 60 :: e.L X a cs) W → W.cell? ⟨X, 3, none⟩ = some (.pointer (some ⟨a.Rl, 0, none⟩)) ∧ Calls Tryz.prog 51 #[.pointer (some ⟨a.Rl, 0, none⟩), .int .i64 (i : Int)] W fun r w' => ∃ ao c', r = .returned (.tuple #[rowV p.n p.a p.c p.k (.slice ao p.l.length c'), .bool p.on]) ∧ All (blkC R [.int .i64 0, .int .i64 0, .int .i64 0, .int .i64 0, .slice none 0 0] 60 :: ownC 9 (.slice ao p.l.length c') (cellsT p.l) :: e.L X a cs) w') := hid (fun W h => by
    refine ⟨cell_in (P := X) (t := 92) (C := engV e.op a.g a.Sh a.Rl e.kop a.kg e.ev) h (by simp [EM.L]) rfl, ?_⟩
    have h2 : All (rollL a.Rl e.ps ++ ((blkC R [.int .i64 0, .int .i64 0, .int .i64 0, .int .i64 0, .slice none 0 0] 60 :: blkC X (engV e.op a.g a.Sh a.Rl e.kop a.kg e.ev) 92 :: poolC a.P :: blkC a.g (bookL 16 16 a.tp) 180 :: shL a.Sh e.S) ++ (blkC a.kg (bookL 16 16 a.kp) 180 :: cs))) W := by
      refine h.perm ?_
      have := perm_by 4 [blkC R [.int .i64 0, .int .i64 0, .int .i64 0, .int .i64 0, .slice none 0 0] 60 :: blkC X (engV e.op a.g a.Sh a.Rl e.kop a.kg e.ev) 92 :: poolC a.P :: [blkC a.g (bookL 16 16 a.tp) 180], shL a.Sh e.S, rollL a.Rl e.ps, blkC a.kg (bookL 16 16 a.kp) 180 :: cs] [2, 0, 1, 3] rfl (by decide)
      simpa [List.getD, EM.L] using this
    refine (Last_row h2 hp hi hpo).mono ?_
    rintro r w' ⟨ao, c', rfl, h3⟩
    refine ⟨ao, c', rfl, h3.perm ?_⟩
    have := perm_by 5 [[ownC 9 (.slice ao p.l.length c') (cellsT p.l)], rollL a.Rl e.ps, [blkC R [.int .i64 0, .int .i64 0, .int .i64 0, .int .i64 0, .slice none 0 0] 60], blkC X (engV e.op a.g a.Sh a.Rl e.kop a.kg e.ev) 92 :: poolC a.P :: blkC a.g (bookL 16 16 a.tp) 180 :: shL a.Sh e.S, blkC a.kg (bookL 16 16 a.kp) 180 :: cs] [2, 0, 3, 1, 4] rfl (by decide)
    simpa [List.getD, EM.L] using this)
  clear A hpo
  go_enter Tryz.func25, Tryz.ntmps25
  go_upto_region 1 with fail
  simp only [← hR.out]
  generalize w.alloc (.cells #[.int .i64 0, .int .i64 0, .int .i64 0, .int .i64 0, .slice none 0 0] 60) = w1 at *
  clear hR
  obtain ⟨x3, C⟩ := C51.out w1 A1.out
  have CC := hid C
  clear C C51 A1
  go_wp2_with (go_at_call 51; refine CC.out.mono ?_; rintro r w2 ⟨ao, c', rfl, A2⟩; have K2 := hid A2; clear A2; have r0 := cell_in (o := 0) K2.out List.mem_cons_self rfl; have r1 := cell_in (o := 1) K2.out List.mem_cons_self rfl; have r2 := cell_in (o := 2) K2.out List.mem_cons_self rfl; have r3 := cell_in (o := 3) K2.out List.mem_cons_self rfl; have r4 := cell_in (o := 4) K2.out List.mem_cons_self rfl; have f0 := free_in K2.out List.mem_cons_self 0; have f1 := free_in K2.out List.mem_cons_self 1; have f2 := free_in K2.out List.mem_cons_self 2; have f3 := free_in K2.out List.mem_cons_self 3; have f4 := free_in K2.out List.mem_cons_self 4; have lR : R < w2.heap.size := lt_in K2.out List.mem_cons_self)
  have FIN := hid (((((K2.out.setBlk 0 (.int .i64 p.n)).setBlk 1 (.int .i64 p.a)).setBlk 2 (.int .i64 p.c)).setBlk 3 (.int .i64 p.k)).setBlk 4 (.slice ao p.l.length c'))
  simp only [List.set_cons_zero, List.set_cons_succ] at FIN
  generalize ((((w2.setCell ⟨R, 0, none⟩ (.int .i64 p.n)).setCell ⟨R, 1, none⟩ (.int .i64 p.a)).setCell ⟨R, 2, none⟩ (.int .i64 p.c)).setCell ⟨R, 3, none⟩ (.int .i64 p.k)).setCell ⟨R, 4, none⟩ (.slice ao p.l.length c') = w8 at *
  clear r0 r1 r2 r3 r4
  have r0 := cell_in (o := 0) FIN.out List.mem_cons_self rfl
  have r1 := cell_in (o := 1) FIN.out List.mem_cons_self rfl
  have r2 := cell_in (o := 2) FIN.out List.mem_cons_self rfl
  have r3 := cell_in (o := 3) FIN.out List.mem_cons_self rfl
  have r4 := cell_in (o := 4) FIN.out List.mem_cons_self rfl
  refine bodyPost_ret (v := .tuple #[rowV p.n p.a p.c p.k (.slice ao p.l.length c'), .bool p.on]) (by simp only [results, Tryz.f25]; go_simp) rfl ?_
  exact ⟨ao, c', rfl, FIN.out.tail⟩
end Go.Proofs.YtafickhhdemjnaaGreatDoor

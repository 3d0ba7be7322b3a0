import Derived.Test.YtafickhhdemjnaaGreatDoorJ22
namespace Go.Proofs.YtafickhhdemjnaaGreatDoor
open Go.RowKit Go.Shelf Go.Sort
set_option linter.unusedVariables false
attribute [local go_sem] Oper.semAt_some

theorem cell_inK {P o : Nat} {C : List Value} {t : TypeId} {cs : List Comp} {w : World} {v : Value} (A : All cs w) (hm : blkC P C t ∈ cs) (h : C[o]? = some v) : w.cell? ⟨P, o, none⟩ = some v := by
  rw [cell_at (A.blk hm), List.getElem?_toArray]; exact h
/-- The parts of 'given' between two rounds. -/
abbrev partsS (L1 Bb Ba g a : Nat) (base : List Comp) (v : Value) (dats : List Comp) (pre : List Xs) : List Comp :=
  blkC L1 [v] 37 :: rowC 78 3 v pre.length (flatX pre) :: (dats ++ blkC Ba [.int .i64 (a : Int)] 3 :: blkC Bb [.pointer (some ⟨g, 0, none⟩)] 82 :: base)

theorem partsS_cells {L1 Bb Ba g a : Nat} {base : List Comp} {v : Value} {dats : List Comp} {pre : List Xs} {W : World} {B : Nat} (h : All (partsS L1 Bb Ba g a base v dats pre) W) (hd : ∀ d ∈ dats, ∃ x, d = datC x) (hb : ∀ d ∈ base, ∀ k ∈ d.fp, k < B) (h1 : L1 < B) (h2 : Bb < B) (h3 : Ba < B) :
    ∀ d ∈ partsS L1 Bb Ba g a base v dats pre, (∀ k ∈ d.fp, k < B) ∨ (∀ k ∈ d.fp, ∃ o : Obj, W.heap[k]? = some o ∧ o.isCells = true) := by
  intro d hm
  have hh := (h.mem hm).2.1
  simp only [partsS, List.mem_cons, List.mem_append] at hm
  rcases hm with rfl | rfl | hm | rfl | rfl | hm
  · exact Or.inl (fun k hk => by simp [blkC] at hk; omega)
  · exact Or.inr (rowC_cells hh)
  · obtain ⟨x, rfl⟩ := hd d hm
    exact Or.inr (rowC_cells hh)
  · exact Or.inl (fun k hk => by simp [blkC] at hk; omega)
  · exact Or.inl (fun k hk => by simp [blkC] at hk; omega)
  · exact Or.inl (hb d hm)

/-- Between two rounds. -/
def IS (L1 Bb Ba g a : Nat) (base : List Comp) (pre : List Xs) (W : World) : Prop :=
  ∃ v, All (partsS L1 Bb Ba g a base v (pre.map datC) pre) W
/-- One more sheet was handed out. -/
def IS2 (L1 Bb Ba g a : Nat) (base : List Comp) (pre : List Xs) (x : Xs) (W : World) : Prop :=
  ∃ v, All (partsS L1 Bb Ba g a base v (datC x :: pre.map datC) pre) W

theorem IS_own {L1 Bb Ba g a B : Nat} {base : List Comp} (hb : ∀ d ∈ base, ∀ k ∈ d.fp, k < B) (h1 : L1 < B) (h2 : Bb < B) (h3 : Ba < B) : OwnFrom B (IS L1 Bb Ba g a base) := by
  rintro pre A C row ⟨v, hA⟩ hg hr
  exact ⟨v, hA.record hg hr (partsS_cells hA (dats_of pre) hb h1 h2 h3)⟩
theorem IS2_own {L1 Bb Ba g a B : Nat} {base : List Comp} (pre : List Xs) (hb : ∀ d ∈ base, ∀ k ∈ d.fp, k < B) (h1 : L1 < B) (h2 : Bb < B) (h3 : Ba < B) : OwnFrom B (IS2 L1 Bb Ba g a base pre) := by
  rintro x A C row ⟨v, hA⟩ hg hr
  refine ⟨v, hA.record hg hr (partsS_cells hA (fun d hd => ?_) hb h1 h2 h3)⟩
  rcases List.mem_cons.1 hd with rfl | hd
  · exact ⟨x, rfl⟩
  · exact dats_of pre d hd

theorem IS_fresh {L1 Bb Ba g a : Nat} {base : List Comp} {pre : List Xs} {x : Xs} {W0 W1 : World} (h : IS L1 Bb Ba g a base pre W0) (hf : x.Fresh W0 W1) : IS2 L1 Bb Ba g a base pre x W1 := by
  obtain ⟨v, hA⟩ := h
  refine ⟨v, ?_⟩
  have h2 : All (datC x :: partsS L1 Bb Ba g a base v (pre.map datC) pre) W1 := by
    refine hA.add (Fr.below hf.1) (rowC_good _ _ _ _ _) (owns_zero hf.2) (fun k hk => ?_)
    have hk' : x.v.ownBlock = some k := by simpa [datC, rowC] using hk
    exact World.ownsRow.lt hf.2 k hk'
  refine h2.perm ?_
  exact (List.Perm.swap _ _ _).trans (.cons _ (List.Perm.swap _ _ _))


set_option maxRecDepth 1000000 in
set_option maxHeartbeats 4000000 in
theorem since_any {w : World} {X o g n h : Nat} {XC : List Value} {t : TypeId} {ps : List Nat} {N : Nodes} {P : Pool} {cs : List Comp} {S : Sheets} {at_ : Int} (hA : All (poolC P :: blkC g (bookL n (2 ^ h) ps) 180 :: cs) w) (hX : blkC X XC t ∈ cs) (h1 : XC[o + 1]? = some (.pointer (some ⟨g, 0, none⟩))) (hB : Bk P n (2 ^ h) ps N S) (hh : h ≤ 6) :
    Calls Tryz.prog 49 #[.pointer (some ⟨X, o, none⟩), .int .i64 at_] w fun e w' => ∃ v ys, e = .returned v ∧ ys.map Xs.key = sel N (2 ^ h) at_.toNat (vis N at_.toNat h 1) ∧ All (rowC 78 3 v ys.length (flatX ys) :: (ys.map datC ++ poolC P :: blkC g (bookL n (2 ^ h) ps) 180 :: cs)) w' := by
  have lX : X < w.heap.size := (hA.mem (c := blkC X XC t) (by simp [hX])).2.2 X (by simp [blkC])
  have x1 : (w.alloc (.cells #[.slice none 0 0] 37)).cell? ⟨X, o + 1, none⟩ = some (.pointer (some ⟨g, 0, none⟩)) := cell_inK (P := X) (o := o + 1) (C := XC) (t := t) (hA.alloc _) (by simp [hX]) h1
  clear hX h1
  obtain ⟨a, ha⟩ : ∃ a, Hid (a = at_.toNat) := ⟨_, hid rfl⟩
  rw [← ha.out]
  obtain ⟨base, hbase⟩ : ∃ base, Hid (base = poolC P :: blkC g (bookL n (2 ^ h) ps) 180 :: cs) := ⟨_, hid rfl⟩
  rw [← hbase.out] at hA ⊢
  have HA := hid hA
  have hbl : ∀ d ∈ base, ∀ k ∈ d.fp, k < w.heap.size := fun d hd => (hA.mem hd).2.2
  have BL := hid hbl
  have A4 := ((hA.addBlk [.slice none 0 0] 37).addBlk [.pointer (some ⟨g, 0, none⟩)] 82).addBlk [.int .i64 (a : Int)] 3
  simp only [World.size_alloc] at A4
  have I0 : Hid (IS w.heap.size (w.heap.size + 1) (w.heap.size + 1 + 1) g a base [] (((w.alloc (.cells #[.slice none 0 0] 37)).alloc (.cells #[.pointer (some ⟨g, 0, none⟩)] 82)).alloc (.cells #[.int .i64 (a : Int)] 3))) := hid ⟨.slice none 0 0, by
    refine (A4.addRow0 (e := 78) (size := 3)).perm ?_
    simp only [partsS, List.map_nil, List.nil_append]
    exact ((List.Perm.cons _ ((List.perm_middle (l₁ := [_, _]) (a := blkC w.heap.size [.slice none 0 0] 37)))).trans (List.Perm.swap _ _ _))⟩
  clear hA A4 hbl
  refine (callsIn_wide (n := 9)).1 ?_
  refine callsIn_of_wp_marks Tryz.func49 rfl trivial ?_ rfl
  simp only [Tryz.ntmps49, List.size_toArray, List.length_cons, List.length_nil, Nat.reduceAdd, Nat.reduceSub, Array.replicate_succ, Array.replicate_zero, List.push_toArray, List.append_toArray, List.nil_append, List.cons_append]
  gi_wp2
  refine ⟨trivial, (callsIn_wide.2 (Since_any (g := g) (at_ := at_) ha)).mono ?_⟩
  rintro e w' ⟨rfl, rfl⟩
  gi_wp2
  have hsz : (((w.alloc (.cells #[.slice none 0 0] 37)).alloc (.cells #[.pointer (some ⟨g, 0, none⟩)] 82)).alloc (.cells #[.int .i64 (a : Int)] 3)).heap.size = w.heap.size + 1 + 1 + 1 := by simp
  generalize (((w.alloc (.cells #[.slice none 0 0] 37)).alloc (.cells #[.pointer (some ⟨g, 0, none⟩)] 82)).alloc (.cells #[.int .i64 (a : Int)] 3)) = w4 at hsz I0 ⊢
  have HSZ := hid hsz
  have hbb : ∀ d ∈ base, ∀ k ∈ d.fp, k < w4.heap.size := fun d hd k hk => by have := BL.out d hd k hk; omega
  have b1 : w.heap.size < w4.heap.size := by omega
  have b2 : w.heap.size + 1 < w4.heap.size := by omega
  have b3 : w.heap.size + 1 + 1 < w4.heap.size := by omega
  refine range_good (P := Tryz.prog) (n := 9) (by omega) (gf := 110) (lb := #[.pointer (some ⟨w.heap.size + 1, 0, none⟩), .pointer (some ⟨w.heap.size + 1 + 1, 0, none⟩)]) rfl (enters_of Tryz.func110 (by kernel_rfl) rfl)
    (encs := fun x : Xs => #[x.enc]) (Kp := KeepT (w.heap.size + 1 + 1)) (Fresh := fun _ x W0 W1 => x.Fresh W0 W1) (S := fun ys => ys.map Xs.key = sel N (2 ^ h) a (vis N a h 1)) (Sp := fun ys => ys.map Xs.key <+: sel N (2 ^ h) a (vis N a h 1)) (Nm := 128) ?seq
    (fun h k => h.then k) (fun W l o o' h1 h2 => KeepT.put W l o o' h1 h2) (fun _ => rfl)
    (fun pre W => IS w.heap.size (w.heap.size + 1) (w.heap.size + 1 + 1) g a base pre W)
    (fun c pre W => False)
    (IS2 w.heap.size (w.heap.size + 1) (w.heap.size + 1 + 1) g a base)
    (fun s A C row hs hg hr => IS_own hbb b1 b2 b3 s A C row hs hg hr)
    (fun c s A C row hs hg hr => hs.elim)
    (fun pre => IS2_own pre hbb b1 b2 b3) (fun pre x W0 W1 h => h.1) (fun pre x W0 W1 h hf => IS_fresh h hf)
    I0.out
    (fun x a' W => ∃ Bx, W.heap[Bx]? = some (.cells #[.int .i64 (x.num : Int), .int .i64 (x.at_ : Int), .slice x.ao x.len x.cap] 78 (0, 0)) ∧ a' = { tmps := #[.pointer (some ⟨X, o, none⟩), .int .i64 at_, undef, undef, .slice none 0 0, .pointer (some ⟨w.heap.size, 0, none⟩), .pointer (some ⟨Bx, 0, none⟩), .pointer (some ⟨X, o, none⟩), .pointer (some ⟨X, o, none⟩), .pointer (some ⟨X, o + 1, none⟩), .pointer (some ⟨g, 0, none⟩), .int .i64 at_, .func (.func 110) #[] #[.pointer (some ⟨w.heap.size + 1, 0, none⟩), .pointer (some ⟨w.heap.size + 1 + 1, 0, none⟩)], .agg #[.int .i64 (x.num : Int), .int .i64 (x.at_ : Int), .slice x.ao x.len x.cap], undef, undef, undef, undef, undef], defers := [] })
    (fun a' x A C row hs hg hr => by
      obtain ⟨Bx, h1, h2⟩ := hs
      refine ⟨Bx, (hg.block Bx (Array.getElem?_eq_some_iff.1 h1).1 (fun e => ?_)).trans h1, h2⟩
      obtain ⟨_, o, ho, hoc⟩ := hr Bx e.symm
      rw [h1] at ho; cases ho; cases hoc)
    ?assign ?body ?done ?stop
  case seq =>
    intro l J Jx W hbW hJ hY h0
    obtain ⟨v, hA0⟩ := I0.out
    rw [hbase.out] at hA0
    have hA1 := hA0.later hbW
    have eBb : W.heap[w.heap.size + 1]? = some (.cells [.pointer (some ⟨g, 0, none⟩)].toArray 82 (0, 0)) := hA1.blk (by simp [partsS])
    have eBa : W.heap[w.heap.size + 1 + 1]? = some (.cells [.int .i64 (a : Int)].toArray 3 (0, 0)) := hA1.blk (by simp [partsS])
    have eg : W.heap[g]? = some (.cells (bookL n (2 ^ h) ps).toArray 180 (0, 0)) := hA1.blk (by simp [partsS])
    have hp : ∀ x ∈ P, W.heap[x.1]? = some x.2 := fun x hx => ((hA1.mem (c := poolC P) (by simp [partsS])).2.1 x hx).1
    exact callsIn_wide.2 (since39 J Jx _ (fun T By A B h k => h.keep (pbOf_PB P) k) (by rw [cell_at eBb]; rfl) (by rw [cell_at eBa]; rfl) eg hp hB hh hJ (fun pre x W0 W1 h1 h2 _ h3 => hY pre x W0 W1 h1 h2 h3) h0)
  case assign =>
    rintro l pre x W K ⟨v, hA⟩ hK
    have HA := hid hA
    have HK := hid hK
    clear hA hK
    simp only [Xs.enc]
    gi_wp2
    refine HK.out _ _ ⟨by simp, fun k o _ hk _ => (Below.heap_alloc _ _ _ (Array.getElem?_eq_some_iff.1 hk).1).trans hk⟩ (KeepT.turn (World.grownBy_alloc W _ none) (fun r e => by cases e)) ⟨v, HA.out.alloc _⟩ ⟨W.heap.size, heap_alloc_new W _, rfl⟩
  case body =>
    rintro l pre x a' W hl ⟨r, hr⟩ ⟨v, hA⟩ ⟨Bx, hBx, rfl⟩ hlt
    have eL1 : W.heap[w.heap.size]? = some (.cells [v].toArray 37 (0, 0)) := hA.blk (by simp [partsS])
    have c1 : W.cell? ⟨w.heap.size, 0, none⟩ = some v := by rw [cell_at eL1]; rfl
    have x0 : W.cell? ⟨Bx, 0, none⟩ = some (.int .i64 (x.num : Int)) := by rw [cell_at hBx]; rfl
    have x1 : W.cell? ⟨Bx, 1, none⟩ = some (.int .i64 (x.at_ : Int)) := by rw [cell_at hBx]; rfl
    have x2 : W.cell? ⟨Bx, 2, none⟩ = some (.slice x.ao x.len x.cap) := by rw [cell_at hBx]; rfl
    obtain ⟨i1, hi1, hz0, hz1, hz2⟩ := info_parts Tryz.info78
    have hrow0 : W.ownsRow 0 78 3 v pre.length (flatX pre) := (hA.mem (c := rowC 78 3 v pre.length (flatX pre)) (by simp [partsS])).2.1
    obtain ⟨oo, oc, rfl⟩ := owns_form hrow0
    have A1 := hA.alloc (.cells x.cells.toArray 78)
    have hrow : (W.alloc (.cells x.cells.toArray 78)).ownsRow 0 78 3 (.slice oo pre.length oc) pre.length (flatX pre) := (A1.mem (c := rowC 78 3 (.slice oo pre.length oc) pre.length (flatX pre)) (by simp [partsS])).2.1
    have hcell : ∀ j u, x.cells[j]? = some u → (W.alloc (.cells x.cells.toArray 78)).cell? ((⟨W.heap.size, 0, none⟩ : Addr).add j) = some u := fun j u hu => by
      rw [Addr.add_lit, cell_at (heap_alloc_new W _)]
      simpa using hu
    have hone : ∀ u ∈ x.cells, u.oneCell' = true := fun u hu => by
      simp only [Xs.cells, List.mem_cons, List.not_mem_nil, or_false] at hu
      rcases hu with rfl | rfl | rfl <;> rfl
    have lL1 : w.heap.size < W.heap.size := (Array.getElem?_eq_some_iff.1 eL1).1
    have A1 := hid A1
    have HR := hid hrow
    have HCL := hid hcell
    have HO := hid hone
    have HLT := hid hlt
    have HR0 := hid hrow0
    simp only [Xs.cells] at A1 HR HCL HO
    clear hA eL1 hBx hrow hcell hone hlt I0 hbb b1 b2 b3 hsz hrow0
    have key : ∀ (v' : Value) (w3 : World), w3.ownsRow 0 78 3 v' (pre.length + 1) (flatX pre ++ [.int .i64 (x.num : Int), .int .i64 (x.at_ : Int), .slice x.ao x.len x.cap]) → (W.alloc (.cells [.int .i64 (x.num : Int), .int .i64 (x.at_ : Int), .slice x.ao x.len x.cap].toArray 78)).grownBy w3 (Value.slice oo pre.length oc).ownBlock → (v'.ownBlock = (Value.slice oo pre.length oc).ownBlock ∨ v'.ownBlock = some (W.alloc (.cells [.int .i64 (x.num : Int), .int .i64 (x.at_ : Int), .slice x.ao x.len x.cap].toArray 78)).heap.size) →
        ∃ o2 c2, v' = .slice o2 (pre.length + 1) c2 ∧ w3.cell? ⟨w.heap.size, 0, none⟩ = some (.slice oo pre.length oc) ∧ w3.frozen? ⟨w.heap.size, 0, none⟩ = false ∧
          Hid (IS w.heap.size (w.heap.size + 1) (w.heap.size + 1 + 1) g a base (pre ++ [x]) (w3.setCell ⟨w.heap.size, 0, none⟩ v') ∧ KeepsFrom w4.heap.size W (w3.setCell ⟨w.heap.size, 0, none⟩ v') ∧ KeepT (w.heap.size + 1 + 1) W (w3.setCell ⟨w.heap.size, 0, none⟩ v')) := by
      intro v' w3 hown hgr hat
      obtain ⟨o2, c2, hv'⟩ := owns_form hown
      have A2 := (A1.out.swap).rowGrow hown hgr hat
      have e1 : w3.heap[w.heap.size]? = some (.cells [.slice oo pre.length oc].toArray 37 (0, 0)) := A2.blk (by simp)
      refine ⟨o2, c2, hv', by rw [cell_at e1]; rfl, free_at e1 0, hid ⟨⟨v', ?_⟩, ?_, ?_⟩⟩
      · have A3 := A2.swap.setBlk 0 v'
        refine A3.perm ?_
        simp only [partsS, List.set_cons_zero, List.length_append, List.length_singleton, flatX_append, List.map_append, List.map_cons, List.map_nil, List.append_assoc, List.cons_append]
        exact .cons _ (.cons _ List.perm_middle.symm)
      · refine KeepsFrom.then (keeps_grown (World.grownBy_alloc W _ none) (fun r e => by cases e)) (KeepsFrom.then (keeps_grown hgr (fun r e => ?_)) (keeps_grown (grownBy_setCell' w3 _ v') (fun r e => by cases e; exact ⟨_, e1, rfl⟩)))
        exact rowC_cells (A1.out.mem (c := rowC 78 3 (.slice oo pre.length oc) pre.length (flatX pre)) (by simp [partsS])).2.1 r (by simp [rowC, e])
      · refine KeepT.then (KeepT.turn (World.grownBy_alloc W _ none) (fun r e => by cases e)) (KeepT.then (KeepT.turn hgr (fun r e => ?_)) (KeepT.turn (grownBy_setCell' w3 _ v') (fun r e => by
          cases e
          refine ⟨by omega, fun cs t fr h => ?_⟩
          rw [e1] at h; cases h; simp)))
        have hro := (A1.out.mem (c := rowC 78 3 (.slice oo pre.length oc) pre.length (flatX pre)) (by simp [partsS])).2.1
        have hro' : World.ownsRow _ 0 78 3 (.slice oo pre.length oc) pre.length (flatX pre) := hro
        rcases hro'.2 with ⟨e2, _⟩ | ⟨gg, cap, cur, e2, _, hgg, _⟩
        · rw [e2] at e; simp [Value.ownBlock] at e
        · rw [e2] at e
          simp [Value.ownBlock] at e
          subst e
          refine ⟨fun e3 => ?_, fun cs t fr h => by rw [hgg] at h; cases h; simp⟩
          have h3 := A1.out.blk (g := w.heap.size + 1 + 1) (vs := [.int .i64 (a : Int)]) (t := 3) (by simp [partsS])
          rw [← e3, hgg] at h3
          cases h3
    have KEY := hid key
    clear key
    gi_wp2_with (gi_at_builtin; refine wpListIn_append_own_at _ rfl (.tmp 14) (.tmp 16) 37 rfl 0 78 i1 (.agg #[.int .i64 0, .int .i64 0, .slice none 0 0]) 3 40 Tryz.underlying37 hi1 hz0 hz1 hz2 rfl (by decide) _ _ _ rfl HR.out ⟨W.heap.size, 0, none⟩ 1 1 [.int .i64 (x.num : Int), .int .i64 (x.at_ : Int), .slice x.ao x.len x.cap] rfl rfl HCL.out HO.out (by have := HLT.out; unfold maxLen; omega) (by have := HLT.out; omega) (by omega) ?_; intro v' w3 hown hgr hnil hat; (obtain ⟨o2, c2, hv2, k1, k2, HF⟩ := KEY.out v' w3 hown hgr hat); subst hv2; clear hown hgr hnil hat)
    exact ⟨HF.out.2.1, HF.out.2.2, HF.out.1⟩
  case done =>
    rintro D ys W hD hS ⟨v, hA⟩ hK
    have eL1 : W.heap[w.heap.size]? = some (.cells [v].toArray 37 (0, 0)) := hA.blk (by simp [partsS])
    have c1 : W.cell? ⟨w.heap.size, 0, none⟩ = some v := by rw [cell_at eL1]; rfl
    have AF := hA.record (grownBy_putObj' W D (.deferred none)) (B := w4.heap.size) (fun r e => by cases e; exact ⟨hD, _, hK, rfl⟩) (partsS_cells hA (dats_of ys) hbb b1 b2 b3)
    have AF := hid AF
    have HK := hid hK
    have HS := hid hS
    clear hA hK hS eL1 I0 hbb b1 b2 b3 hsz
    obtain ⟨o1, o2, o3, rfl⟩ : ∃ o1 o2 o3, v = .slice o1 o2 o3 := by
      obtain ⟨o1, o3, e⟩ := owns_form (show _ from (AF.out.mem (c := rowC 78 3 v ys.length (flatX ys)) (by simp [partsS])).2.1)
      exact ⟨_, _, _, e⟩
    gi_wp2
    refine ⟨by simp, .inl ⟨_, _, rfl, run_takeDeferred HK.out, ?_⟩⟩
    refine ⟨_, results_tmp rfl _ _ _, _, ys, rfl, HS.out, ?_⟩
    have h1 := AF.out.tail
    refine ⟨h1.1, fun d hd => h1.2.1 d ?_, ?_⟩
    · simp only [List.mem_append] at hd ⊢
      rcases hd with hd | hd
      · exact .inl hd
      · exact .inr (by simp [hd])
    · exact ((h1.2.2.mid).mid)
  case stop =>
    rintro D c ys W hD hS hF hK
    exact hF.elim
end Go.Proofs.YtafickhhdemjnaaGreatDoor

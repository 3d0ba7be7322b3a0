import Derived.Test.YthjoppgomopkfaaGath
namespace Go.Proofs.Ythjoppgomopkfaa
open Go.RowKit Go.Shelf
attribute [local go_sem] Oper.semAt_some
set_option linter.unusedVariables false

theorem perm_by (n : Nat) (ls : List (List Comp)) (σ : List Nat) (hn : ls.length = n) (h : σ.Perm (List.range n)) : ls.flatten.Perm (σ.map fun i => ls.getD i []).flatten := by
  subst hn
  have h1 : ls = (List.range ls.length).map fun i => ls.getD i [] := by
    refine List.ext_getElem (by simp) fun i h1 h2 => ?_
    simp [List.getD, h1]
  have h2 := (h.map fun i => ls.getD i []).flatten
  rw [← h1] at h2
  exact h2.symm

theorem perm7 (a b c d e f k : Comp) (X : List Comp) : (a :: b :: c :: d :: e :: f :: k :: X).Perm (c :: a :: k :: f :: b :: d :: e :: X) := by
  have := perm_by 8 [[a], [b], [c], [d], [e], [f], [k], X] [2, 0, 6, 5, 1, 3, 4, 7] rfl (by decide)
  simpa [List.getD] using this

/-- What 'gathered' tells. -/
def outL (lim : Int) (L : List Ent) : List Ent := if lim < 0 then L else L.take lim.toNat
theorem items_snd : ∀ (b : Nat) (l : List Ent), (items b l).map Prod.snd = l
  | _, [] => rfl
  | b, e :: t => by simp [items, items_snd (b + 1) t]
theorem items_next {b : Nat} {L : List Ent} {pre : List (Nat × Ent)} {x : Nat × Ent} (h : pre ++ [x] <+: items b L) : x.1 = b + 1 + pre.length ∧ pre.length < L.length := by
  have hl := h.length_le
  rw [items_len, List.length_append, List.length_singleton] at hl
  refine ⟨?_, by omega⟩
  obtain ⟨t, ht⟩ := h
  have h1 : (items b L)[pre.length]? = some x := by rw [← ht]; simp
  have hpl : pre.length < L.length := by omega
  rw [items_at b L pre.length _ (List.getElem?_eq_getElem hpl)] at h1
  have := Option.some.inj h1
  rw [← this]
theorem out_all {b : Nat} {L : List Ent} {lim : Int} (h : ∀ k : Nat, k ≤ L.length → 0 < k → (k : Int) ≠ lim) (h0 : lim ≠ 0) : outL lim L = L := by
  unfold outL
  split
  · rfl
  · refine List.take_of_length_le ?_
    by_cases hc : lim.toNat ≤ L.length
    · exact absurd (by omega) (h lim.toNat hc (by omega))
    · omega
theorem res32 {tmps : Array Value} {w : World} {b0 b1 : Nat} {v u : Value} (ht : tmps.getD 6 undef = .pointer (some ⟨b0, 0, none⟩)) (hu : tmps.getD 7 undef = .pointer (some ⟨b1, 0, none⟩)) (h0 : w.cell? ⟨b0, 0, none⟩ = some v) (h1 : w.cell? ⟨b1, 0, none⟩ = some u) : (results Try.f32 tmps).run Try.prog w = .ok (.tuple #[v, u]) w := by
  have hp' : tmps[6]?.getD undef = .pointer (some ⟨b0, 0, none⟩) := by simpa using ht
  have hv' : tmps[7]?.getD undef = .pointer (some ⟨b1, 0, none⟩) := by simpa using hu
  have hres : Try.f32.results = #[.cell 6 40, .cell 7 4] := rfl
  simp only [results, hres]
  go_simp

theorem All.right {Y Z : List Comp} {w : World} (h : All (Y ++ Z) w) : All Z w := by
  induction Y with
  | nil => exact h
  | cons a Y ih => exact ih h.tail
theorem permF (a b c d e f k : Comp) (X : List Comp) : (a :: b :: c :: d :: e :: f :: k :: X).Perm (f :: k :: b :: a :: c :: d :: e :: X) := by
  have := perm_by 8 [[a], [b], [c], [d], [e], [f], [k], X] [5, 6, 1, 0, 2, 3, 4, 7] rfl (by decide)
  simpa [List.getD] using this
theorem finG {H0 OB L0 L1 Bb g b B D R0 R1 : Nat} {L out : List Ent} {lim : Int} {pre : List (Nat × Ent)} {v : Value} {X : List Comp} {W : World} (hA : All (optH H0 L pre ++ partsG OB L0 L1 Bb g b lim (blkC R1 [.bool false] 4 :: blkC R0 [.slice none 0 0] 40 :: X) v out) W) (hX : ∀ d ∈ X, ∀ k ∈ d.fp, k < B) (hD : B ≤ D) (hK : W.heap[D]? = some (.deferred (some []))) (h0 : R0 < B) (h1 : R1 < B) :
    (W.cell? ⟨R0, 0, none⟩ = some (.slice none 0 0) ∧ W.frozen? ⟨R0, 0, none⟩ = false ∧ W.cell? ⟨R1, 0, none⟩ = some (.bool false) ∧ W.frozen? ⟨R1, 0, none⟩ = false) ∧ R0 ≠ R1 ∧
    Hid (((W.setCell ⟨R0, 0, none⟩ v).setCell ⟨R1, 0, none⟩ (.bool true)).heap[D]? = some (.deferred (some [])) ∧ (((W.setCell ⟨R0, 0, none⟩ v).setCell ⟨R1, 0, none⟩ (.bool true)).putObj D (.deferred none)).cell? ⟨R0, 0, none⟩ = some v ∧ (((W.setCell ⟨R0, 0, none⟩ v).setCell ⟨R1, 0, none⟩ (.bool true)).putObj D (.deferred none)).cell? ⟨R1, 0, none⟩ = some (.bool true) ∧ All (entC v out :: X) (((W.setCell ⟨R0, 0, none⟩ v).setCell ⟨R1, 0, none⟩ (.bool true)).putObj D (.deferred none))) := by
  have A1 : All (blkC R1 [.bool false] 4 :: blkC R0 [.slice none 0 0] 40 :: entC v out :: blkC OB [v] 40 :: blkC L0 [.int .i64 (b : Int)] 3 :: blkC L1 [.int .i64 lim] 3 :: blkC Bb [.pointer (some ⟨g, 0, none⟩)] 23 :: X) W := hA.right.perm (permF _ _ _ _ _ _ _ _)
  have e1 := A1.1.2.1
  have e0 := A1.tail.1.2.1
  have A2 := (A1.swap.setBlk 0 v).swap.setBlk 0 (.bool true)
  have hD' : ((W.setCell ⟨R0, 0, none⟩ v).setCell ⟨R1, 0, none⟩ (.bool true)).heap[D]? = some (.deferred (some [])) := by
    rw [Below.heap_setCell _ _ _ _ (by intro e; have : D = R1 := e; omega), Below.heap_setCell _ _ _ _ (by intro e; have : D = R0 := e; omega)]
    exact hK
  have A3 := A2.record (grownBy_putObj' _ D (.deferred none)) (B := B) (fun r e => by cases e; exact ⟨hD, _, hD', rfl⟩) (fun d hd => by
    have hh := (A2.mem hd).2.1
    simp only [List.mem_cons] at hd
    rcases hd with rfl | rfl | rfl | rfl | rfl | rfl | rfl | hd
    · exact Or.inr (blkC_cells hh)
    · exact Or.inr (blkC_cells hh)
    · exact Or.inr (rowC_cells hh)
    · exact Or.inr (blkC_cells hh)
    · exact Or.inr (blkC_cells hh)
    · exact Or.inr (blkC_cells hh)
    · exact Or.inr (blkC_cells hh)
    · exact Or.inl (hX d hd))
  refine ⟨⟨by rw [cell_at e0]; rfl, free_at e0 0, by rw [cell_at e1]; rfl, free_at e1 0⟩, ?_, hid ⟨hD', by rw [cell_at A3.tail.1.2.1]; rfl, by rw [cell_at A3.1.2.1]; rfl, ?_⟩⟩
  · intro e
    exact A1.2.1 (blkC R0 [.slice none 0 0] 40) (by simp) R1 (by simp [blkC]) (by simp [blkC, e])
  · have A4 := A3.tail.tail
    exact ⟨A4.1, fun d hd => A4.2.1 d (by simp [hd]), A4.2.2.tail.tail.tail.tail⟩

set_option maxRecDepth 100000 in
set_option maxHeartbeats 4000000 in
theorem gath_all {w : World} {g h b n : Nat} {L ps : List Ent} {cs : List Comp} {lim : Int} (hA : All (logP g h b (b + L.length) n ps ++ cs) w) (hk : LogOk b n L ps) (hlim : lim ≠ 0) :
    Calls Try.prog 32 #[.pointer (some ⟨g, 0, none⟩), .int .i64 (b : Int), .int .i64 lim] w fun e w' => ∃ v, e = .returned (.tuple #[v, .bool true]) ∧ All (entC v (outL lim L) :: (logP g h b (b + L.length) n ps ++ cs)) w' := by
  have htop := hk.top
  have hfew := hk.few
  have hle := hk.le
  obtain ⟨base, hbase⟩ : ∃ base, Hid (base = blkC (w.heap.size + 1 + 1 + 1) [.bool false] 4 :: blkC (w.heap.size + 1 + 1) [.slice none 0 0] 40 :: (logP g h b (b + L.length) n ps ++ cs)) := ⟨_, hid rfl⟩
  have A6 := (((((hA.addBlk [.int .i64 (b : Int)] 3).addBlk [.int .i64 lim] 3).addBlk [.slice none 0 0] 40).addBlk [.bool false] 4).addBlk [.slice none 0 0] 40).addBlk [.pointer (some ⟨g, 0, none⟩)] 23
  simp only [World.size_alloc] at A6
  obtain ⟨w6, hw6⟩ : ∃ w6, w6 = (((((w.alloc (.cells #[.int .i64 (b : Int)] 3)).alloc (.cells #[.int .i64 lim] 3)).alloc (.cells #[.slice none 0 0] 40)).alloc (.cells #[.bool false] 4)).alloc (.cells #[.slice none 0 0] 40)).alloc (.cells #[.pointer (some ⟨g, 0, none⟩)] 23) := ⟨_, rfl⟩
  have hsz : w6.heap.size = w.heap.size + 1 + 1 + 1 + 1 + 1 + 1 := by rw [hw6]; simp
  have I0 : Hid (IG (w6.heap.size + 3) L (w.heap.size + 1 + 1 + 1 + 1) w.heap.size (w.heap.size + 1) (w.heap.size + 1 + 1 + 1 + 1 + 1) g b lim base [] w6) := hid ⟨.slice none 0 0, by
    rw [hw6]
    refine (A6.addRow0 (e := 39) (size := 7)).perm ?_
    rw [optH, if_pos rfl, List.nil_append, hbase.out]
    exact perm7 _ _ _ _ _ _ _ _⟩
  have d0 : (lim == 0) = false := by simpa using hlim
  have hbl : ∀ d ∈ base, ∀ k ∈ d.fp, k < w6.heap.size := fun d hd => by
    obtain ⟨v, hI⟩ := I0.out
    exact (hI.mem (List.mem_append_right _ (by simp [hd]))).2.2
  have BL := hid hbl
  have HW6 := hid hw6
  have HSZ := hid hsz
  have HKK := hid hk
  clear hA A6 hbl hw6 hsz hk
  refine (callsIn_wide (n := 9)).1 ?_
  refine callsIn_of_wp_marks Try.func32 rfl trivial ?_ rfl
  simp only [Try.ntmps32, List.size_toArray, List.length_cons, List.length_nil, Nat.reduceAdd, Nat.reduceSub, Array.replicate_succ, Array.replicate_zero, List.push_toArray, List.append_toArray, List.nil_append, List.cons_append]
  gi_wp2
  refine ⟨trivial, (callsIn_wide.2 (All_any (g := g))).mono ?_⟩
  rintro e w' ⟨rfl, rfl⟩
  gi_wp2
  rw [← HW6.out]
  clear HW6
  generalize w.heap.size = N at I0 HSZ hbase ⊢
  refine range_good (P := Try.prog) (n := 9) (by omega) (gf := 40) (lb := #[.pointer (some ⟨N + 1 + 1 + 1 + 1 + 1, 0, none⟩)]) rfl (enters_of Try.func40 (by kernel_rfl) rfl)
    (encs := fun x : Nat × Ent => #[.int .i64 (x.1 : Int), x.2.V]) (Kp := KeepH (w6.heap.size + 3)) (Fresh := fun pre x W0 W1 => FreshI (w6.heap.size + 3) b L pre x W0 W1) (S := fun ys => ys = items b L) (Sp := fun ys => ys <+: items b L) (Nm := 64) ?seq
    (fun h k => h.then k) (fun W l o o' h1 h2 => KeepH.put W l o o' h1 h2) (fun _ => rfl)
    (fun pre W => (∀ k : Nat, k ≤ pre.length → 0 < k → (k : Int) ≠ lim) ∧ IG (w6.heap.size + 3) L (N + 1 + 1 + 1 + 1) N (N + 1) (N + 1 + 1 + 1 + 1 + 1) g b lim base pre W)
    (fun c pre W => c = .exit 0 ∧ (pre.length : Int) = lim ∧ IG (w6.heap.size + 3) L (N + 1 + 1 + 1 + 1) N (N + 1) (N + 1 + 1 + 1 + 1 + 1) g b lim base pre W)
    (fun pre x W => (∀ k : Nat, k ≤ pre.length → 0 < k → (k : Int) ≠ lim) ∧ IG2 (w6.heap.size + 3) L (N + 1 + 1 + 1 + 1) N (N + 1) (N + 1 + 1 + 1 + 1 + 1) g b lim base pre x W)
    (fun s A C row hs hg hr => ⟨hs.1, IG_own BL.out s A C row hs.2 hg hr⟩)
    (fun c s A C row hs hg hr => ⟨hs.1, hs.2.1, IG_own BL.out s A C row hs.2.2 hg hr⟩)
    (fun pre s A C row hs hg hr => ⟨hs.1, IG2_own pre BL.out s A C row hs.2 hg hr⟩) (fun pre x W0 W1 h => h.below) (fun pre x W0 W1 h hf => ⟨h.1, IG_fresh h.2 hf⟩)
    ⟨fun k h1 h2 => by simp at h1; omega, I0.out⟩
    (fun x a' W => ∃ Bx, W.heap[Bx]? = some (.cells x.2.cells.toArray 39 (0, 0)) ∧ a' = { tmps := #[.pointer (some ⟨g, 0, none⟩), .int .i64 (b : Int), .int .i64 lim, undef, .pointer (some ⟨N, 0, none⟩), .pointer (some ⟨N + 1, 0, none⟩), .pointer (some ⟨N + 1 + 1, 0, none⟩), .pointer (some ⟨N + 1 + 1 + 1, 0, none⟩), .pointer (some ⟨N + 1 + 1 + 1 + 1, 0, none⟩), .int .i64 (x.1 : Int), .pointer (some ⟨Bx, 0, none⟩), .int .i64 lim, .bool false, .pointer (some ⟨g, 0, none⟩), .func (.func 40) #[] #[.pointer (some ⟨N + 1 + 1 + 1 + 1 + 1, 0, none⟩)], .int .i64 (x.1 : Int), x.2.V, undef, undef, undef, undef, undef, undef, undef, undef, undef, undef, undef, undef, undef, undef, undef, undef], defers := [] })
    (fun a' x A C row hs hg hr => by
      obtain ⟨Bx, h1, h2⟩ := hs
      refine ⟨Bx, (hg.block Bx (Array.getElem?_eq_some_iff.1 h1).1 (fun e => ?_)).trans h1, h2⟩
      obtain ⟨_, o, ho, hoc⟩ := hr Bx e.symm
      rw [h1] at ho; cases ho; cases hoc)
    ?assign ?body ?done ?stop
  case seq =>
    intro l J Jx W hbW hWs hJ hY h0
    obtain ⟨v, hA0⟩ := I0.out
    rw [optH, if_pos rfl, List.nil_append, hbase.out] at hA0
    have hA1 := hA0.later hbW
    have eBb : W.heap[N + 1 + 1 + 1 + 1 + 1]? = some (.cells [.pointer (some ⟨g, 0, none⟩)].toArray 23 (0, 0)) := hA1.blk (by simp [partsG])
    have eg : W.heap[g]? = some (.cells (headV b (b + L.length) h n).toArray 65 (0, 0)) := hA1.blk (by simp [partsG, logP])
    have eh : W.heap[h]? = some (.cells (flatE ps).toArray 39 (0, 0)) := hA1.blk (by simp [partsG, logP])
    have e3 : W.heap.size + 1 = w6.heap.size + 3 := by omega
    have key := all40 (l := l) (m := 7) (Bb := N + 1 + 1 + 1 + 1 + 1) (W := W) J Jx (KeepH (w6.heap.size + 3)) (fun A B cs h k => by rw [e3] at h ⊢; exact k cs h) (by rw [cell_at eBb]; rfl) eg eh HKK.out hJ (fun pre x W0 W1 h1 h2 h3 => hY pre x W0 W1 h1 (by rw [e3] at h2; exact h2) h3) h0
    exact key
  case assign =>
    rintro l pre x W K ⟨hne, hp, v, hA⟩ hK
    have HA := hid hA
    have HK := hid hK
    clear hA hK
    gi_wp2
    refine HK.out _ _ ⟨by simp, fun k o _ hk _ => (Below.heap_alloc _ _ _ (Array.getElem?_eq_some_iff.1 hk).1).trans hk⟩ (KeepH.of HA.out.1.2.1 ((HA.out.alloc _).1.2.1)) ⟨hne, hp, v, HA.out.alloc _⟩ ⟨W.heap.size, heap_alloc_new W _, rfl⟩
  case body =>
    rintro l pre x a' W hl ⟨r, hr⟩ ⟨hne, hp, v, hA⟩ ⟨Bx, hBx, rfl⟩ hlt
    obtain ⟨hx1, hpl⟩ := items_next hp
    have eOB : W.heap[N + 1 + 1 + 1 + 1]? = some (.cells [v].toArray 40 (0, 0)) := hA.blk (by simp [partsG])
    have c1 : W.cell? ⟨N + 1 + 1 + 1 + 1, 0, none⟩ = some v := by rw [cell_at eOB]; rfl
    have eL0 : W.heap[N]? = some (.cells [.int .i64 (b : Int)].toArray 3 (0, 0)) := hA.blk (by simp [partsG])
    have c0 : W.cell? ⟨N, 0, none⟩ = some (.int .i64 (b : Int)) := by rw [cell_at eL0]; rfl
    have eL1 : W.heap[N + 1]? = some (.cells [.int .i64 lim].toArray 3 (0, 0)) := hA.blk (by simp [partsG])
    obtain ⟨y1, y2, y3, y4, y5, y6, y7⟩ := entAt_of (range_one hBx)
    obtain ⟨i1, hi1, hz0, hz1, hz2⟩ := info_parts Try.info39
    have hrow0 : W.ownsRow 0 39 7 v (pre.map Prod.snd).length (flatE (pre.map Prod.snd)) := (hA.mem (c := entC v (pre.map Prod.snd)) (by simp [partsG])).2.1
    obtain ⟨oo, oc, rfl, _⟩ := owns7_form hrow0
    have A1 := hA.alloc (.cells x.2.cells.toArray 39)
    have hrow : (W.alloc (.cells x.2.cells.toArray 39)).ownsRow 0 39 7 (.slice oo (pre.map Prod.snd).length oc) (pre.map Prod.snd).length (flatE (pre.map Prod.snd)) := (A1.mem (c := entC _ (pre.map Prod.snd)) (by simp [partsG])).2.1
    have hcell : ∀ j u, x.2.cells[j]? = some u → (W.alloc (.cells x.2.cells.toArray 39)).cell? ((⟨W.heap.size, 0, none⟩ : Addr).add j) = some u := fun j u hu => by
      rw [Addr.add_lit, cell_at (heap_alloc_new W _), Nat.zero_add]
      exact (List.getElem?_toArray ..).trans hu
    have lOB : N + 1 + 1 + 1 + 1 < W.heap.size := (Array.getElem?_eq_some_iff.1 eOB).1
    have lL1 : N + 1 < W.heap.size := (Array.getElem?_eq_some_iff.1 eL1).1
    have A1 := hid A1
    have HR := hid hrow
    have HCL := hid hcell
    have HO := hid x.2.one
    have HP := hid hp
    have HNE := hid hne
    have HA := hid hA
    simp only [Ent.cells] at A1 HR HCL HO
    have hml : (pre.map Prod.snd).length = pre.length := by simp
    rw [hml] at HR
    clear hA eOB eL0 eL1 hBx hrow hcell I0 hrow0 hp hne
    have key : ∀ (v' : Value) (w3 : World), w3.ownsRow 0 39 7 v' (pre.length + 1) (flatE (pre.map Prod.snd) ++ [.int .i64 x.2.c, .int .i64 x.2.n, .int .i64 x.2.k, .string x.2.nm, .string x.2.tx, .int .i64 x.2.m, .int .i64 x.2.q]) → (W.alloc (.cells [.int .i64 x.2.c, .int .i64 x.2.n, .int .i64 x.2.k, .string x.2.nm, .string x.2.tx, .int .i64 x.2.m, .int .i64 x.2.q].toArray 39)).grownBy w3 (Value.slice oo pre.length oc).ownBlock → (v'.ownBlock = (Value.slice oo pre.length oc).ownBlock ∨ v'.ownBlock = some (W.alloc (.cells [.int .i64 x.2.c, .int .i64 x.2.n, .int .i64 x.2.k, .string x.2.nm, .string x.2.tx, .int .i64 x.2.m, .int .i64 x.2.q].toArray 39)).heap.size) →
        ∃ o2 c2, v' = .slice o2 (pre.length + 1) c2 ∧ w3.cell? ⟨N + 1 + 1 + 1 + 1, 0, none⟩ = some (.slice oo pre.length oc) ∧ w3.frozen? ⟨N + 1 + 1 + 1 + 1, 0, none⟩ = false ∧ w3.cell? ⟨N + 1, 0, none⟩ = some (.int .i64 lim) ∧
          Hid (IG (w6.heap.size + 3) L (N + 1 + 1 + 1 + 1) N (N + 1) (N + 1 + 1 + 1 + 1 + 1) g b lim base (pre ++ [x]) (w3.setCell ⟨N + 1 + 1 + 1 + 1, 0, none⟩ v') ∧ KeepsFrom w6.heap.size W (w3.setCell ⟨N + 1 + 1 + 1 + 1, 0, none⟩ v') ∧ KeepH (w6.heap.size + 3) W (w3.setCell ⟨N + 1 + 1 + 1 + 1, 0, none⟩ v')) := by
      intro v' w3 hown hgr hat
      obtain ⟨o2, c2, hv'⟩ := owns_form hown
      rw [hml] at A1
      have A1' : All (entC (.slice oo pre.length oc) (pre.map Prod.snd) :: blkC (N + 1 + 1 + 1 + 1) [.slice oo pre.length oc] 40 :: blkC (w6.heap.size + 3) (flatE L) 39 :: blkC N [.int .i64 (b : Int)] 3 :: blkC (N + 1) [.int .i64 lim] 3 :: blkC (N + 1 + 1 + 1 + 1 + 1) [.pointer (some ⟨g, 0, none⟩)] 23 :: base) (W.alloc (.cells [.int .i64 x.2.c, .int .i64 x.2.n, .int .i64 x.2.k, .string x.2.nm, .string x.2.tx, .int .i64 x.2.m, .int .i64 x.2.q].toArray 39)) := A1.out.cba
      have A2 := A1'.rowGrow (vs' := flatE ((pre ++ [x]).map Prod.snd)) (n' := ((pre ++ [x]).map Prod.snd).length) (by rw [List.map_append, List.map_cons, List.map_nil, flatE_snoc, List.length_append, hml]; exact hown) hgr hat
      have e1 : w3.heap[N + 1 + 1 + 1 + 1]? = some (.cells [.slice oo pre.length oc].toArray 40 (0, 0)) := A2.blk (by simp)
      have e0 : w3.heap[N + 1]? = some (.cells [.int .i64 lim].toArray 3 (0, 0)) := A2.blk (by simp)
      have A3 := A2.swap.setBlk 0 v'
      have hfin : All (blkC (w6.heap.size + 3) (flatE L) 39 :: partsG (N + 1 + 1 + 1 + 1) N (N + 1) (N + 1 + 1 + 1 + 1 + 1) g b lim base v' ((pre ++ [x]).map Prod.snd)) (w3.setCell ⟨N + 1 + 1 + 1 + 1, 0, none⟩ v') := A3.cab
      refine ⟨o2, c2, hv', by rw [cell_at e1]; rfl, free_at e1 0, by rw [cell_at e0]; rfl, hid ⟨⟨v', ?_⟩, ?_, ?_⟩⟩
      · rw [optH, if_neg (by simp)]
        exact hfin
      · refine KeepsFrom.then (keeps_grown (World.grownBy_alloc W _ none) (fun r e => by cases e)) (KeepsFrom.then (keeps_grown hgr (fun r e => ?_)) (keeps_grown (grownBy_setCell' w3 _ v') (fun r e => by cases e; exact ⟨_, e1, rfl⟩)))
        exact rowC_cells A1'.1.2.1 r (by simp [rowC, e])
      · exact KeepH.of HA.out.1.2.1 hfin.1.2.1
    have KEY := hid key
    clear key
    have hneq : ((x.1 : Int) != (b : Int) + 1 + (pre.length : Int)) = false := by rw [hx1]; simp
    have hneq2 : (x.1 : Int) = (b : Int) + 1 + (pre.length : Int) := by rw [hx1]; omega
    have HLT := hid hlt
    have hx1' := hid hx1
    rw [hml] at c1
    clear hx1 hml HA A1
    by_cases hc : ((pre.length : Int) + 1) = lim
    · have dc : decide ((pre.length : Int) + 1 = lim) = true := by simpa using hc
      have dc2 : ((pre.length : Int) + 1 == lim) = true := by simpa using hc
      have HC := hid hc
      clear hc
      gi_wp2_with (gi_at_builtin; refine wpListIn_append_own_at _ rfl (.tmp 24) (.tmp 26) 40 rfl 0 39 i1 (.agg Ent.zero.cells.toArray) 7 72 Try.underlying40 hi1 hz0 hz1 hz2 rfl (by decide) _ _ _ rfl HR.out ⟨W.heap.size, 0, none⟩ 1 1 [.int .i64 x.2.c, .int .i64 x.2.n, .int .i64 x.2.k, .string x.2.nm, .string x.2.tx, .int .i64 x.2.m, .int .i64 x.2.q] rfl rfl HCL.out HO.out (by unfold maxLen; omega) (by omega) (by omega) ?_; intro v' w3 hown hgr hnil hat; (obtain ⟨o2, c2, hv2, k1, k2, k3, HF⟩ := KEY.out v' w3 hown hgr hat); subst hv2; clear hown hgr hnil hat)
      exact ⟨HF.out.2.1, rfl, by rw [List.length_append]; simpa using HC.out, HF.out.1⟩
    · have dc : decide ((pre.length : Int) + 1 = lim) = false := by simpa using hc
      have dc2 : ((pre.length : Int) + 1 == lim) = false := by simpa using hc
      have HC := hid hc
      clear hc
      gi_wp2_with (gi_at_builtin; refine wpListIn_append_own_at _ rfl (.tmp 24) (.tmp 26) 40 rfl 0 39 i1 (.agg Ent.zero.cells.toArray) 7 72 Try.underlying40 hi1 hz0 hz1 hz2 rfl (by decide) _ _ _ rfl HR.out ⟨W.heap.size, 0, none⟩ 1 1 [.int .i64 x.2.c, .int .i64 x.2.n, .int .i64 x.2.k, .string x.2.nm, .string x.2.tx, .int .i64 x.2.m, .int .i64 x.2.q] rfl rfl HCL.out HO.out (by unfold maxLen; omega) (by omega) (by omega) ?_; intro v' w3 hown hgr hnil hat; (obtain ⟨o2, c2, hv2, k1, k2, k3, HF⟩ := KEY.out v' w3 hown hgr hat); subst hv2; clear hown hgr hnil hat)
      exact ⟨HF.out.2.1, HF.out.2.2, fun k h1 h2 => by
        rw [List.length_append, List.length_singleton] at h1
        by_cases hk : k = pre.length + 1
        · subst hk; have := HC.out; omega
        · exact HNE.out k (by omega) h2, HF.out.1⟩
  case done =>
    rintro D ys W hD hS ⟨hne, v, hA⟩ hK
    rw [hbase.out] at hA
    have c1 : W.cell? ⟨N + 1 + 1 + 1 + 1, 0, none⟩ = some v := by
      have eOB : W.heap[N + 1 + 1 + 1 + 1]? = some (.cells [v].toArray 40 (0, 0)) := hA.blk (by simp [partsG])
      rw [cell_at eOB]; rfl
    obtain ⟨o1, o3, rfl, _⟩ := owns7_form (show W.ownsRow 0 39 7 v _ _ from (hA.mem (c := entC v (ys.map Prod.snd)) (by simp [partsG])).2.1)
    obtain ⟨⟨r0, f0, r1, f1⟩, hR, FIN⟩ := finG (B := w6.heap.size) hA (fun d hd => BL.out d (by rw [hbase.out]; simp only [List.mem_cons]; exact .inr (.inr hd))) hD hK (by have := HSZ.out; omega) (by have := HSZ.out; omega)
    have HE : Hid (ys.map Prod.snd = outL lim L) := hid (by
      subst hS
      rw [items_snd]
      exact (out_all (b := b) (fun k h1 h2 => hne k (by rw [items_len]; exact h1) h2) hlim).symm)
    rw [HE.out] at FIN c1
    generalize (outL lim L).length = oN at c1 FIN
    clear hA hK hS I0
    gi_wp2
    refine ⟨by simp, .inl ⟨_, _, rfl, run_takeDeferred FIN.out.1, ?_⟩⟩
    exact ⟨_, res32 rfl rfl FIN.out.2.1 FIN.out.2.2.1, _, rfl, FIN.out.2.2.2⟩
  case stop =>
    rintro D c ys W hD hS ⟨rfl, hlen, v, hA⟩ hK
    rw [hbase.out] at hA
    have c1 : W.cell? ⟨N + 1 + 1 + 1 + 1, 0, none⟩ = some v := by
      have eOB : W.heap[N + 1 + 1 + 1 + 1]? = some (.cells [v].toArray 40 (0, 0)) := hA.blk (by simp [partsG])
      rw [cell_at eOB]; rfl
    obtain ⟨o1, o3, rfl, _⟩ := owns7_form (show W.ownsRow 0 39 7 v _ _ from (hA.mem (c := entC v (ys.map Prod.snd)) (by simp [partsG])).2.1)
    obtain ⟨⟨r0, f0, r1, f1⟩, hR, FIN⟩ := finG (B := w6.heap.size) hA (fun d hd => BL.out d (by rw [hbase.out]; simp only [List.mem_cons]; exact .inr (.inr hd))) hD hK (by have := HSZ.out; omega) (by have := HSZ.out; omega)
    have HE : Hid (ys.map Prod.snd = outL lim L) := hid (by
      obtain ⟨t, ht⟩ := hS
      have hLm : L = ys.map Prod.snd ++ t.map Prod.snd := by rw [← items_snd b L, ← ht, List.map_append]
      unfold outL
      rw [if_neg (by omega)]
      conv => rhs; rw [hLm]
      rw [List.take_append_of_le_length (by simp; omega), List.take_of_length_le (by simp; omega)])
    rw [HE.out] at FIN c1
    generalize (outL lim L).length = oN at c1 FIN
    clear hA hK hS I0
    gi_wp2
    refine ⟨by simp, .inl ⟨_, _, rfl, run_takeDeferred FIN.out.1, ?_⟩⟩
    exact ⟨_, res32 rfl rfl FIN.out.2.1 FIN.out.2.2.1, _, rfl, FIN.out.2.2.2⟩
end Go.Proofs.Ythjoppgomopkfaa

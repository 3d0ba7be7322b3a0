import Derived.Test.YthjoppgomopkfaaGath2
import Derived.Test.YthjoppgomopkfaaRNew
namespace Go.Proofs.Ythjoppgomopkfaa
open Go.RowKit Go.Shelf
attribute [local go_sem] Oper.semAt_some
set_option linter.unusedVariables false

abbrev partsN (CB NB Bb g : Nat) (cl : Int) (base : List Comp) (a : Int) : List Comp :=
  blkC NB [.int .i64 a] 3 :: blkC CB [.int .i64 cl] 3 :: blkC Bb [.pointer (some ⟨g, 0, none⟩)] 23 :: base
def IN (H0 : Nat) (L : List Ent) (CB NB Bb g : Nat) (cl : Int) (base : List Comp) (pre : List (Nat × Ent)) (W : World) : Prop :=
  All (optH H0 L pre ++ partsN CB NB Bb g cl base (newestL cl 0 (pre.map Prod.snd))) W
def IN2 (H0 : Nat) (L : List Ent) (CB NB Bb g : Nat) (cl : Int) (base : List Comp) (pre : List (Nat × Ent)) (x : Nat × Ent) (W : World) : Prop :=
  All (blkC H0 (flatE L) 39 :: partsN CB NB Bb g cl base (newestL cl 0 (pre.map Prod.snd))) W
section
variable {H0 : Nat} {L : List Ent} {CB NB Bb g B : Nat} {cl : Int} {base : List Comp}
theorem partsN_cells {X : List Comp} {a : Int} {W : World} (h : All (X ++ partsN CB NB Bb g cl base a) W) (hX : ∀ d ∈ X, ∃ g vs t, d = blkC g vs t) (hb : ∀ d ∈ base, ∀ k ∈ d.fp, k < B) :
    ∀ d ∈ X ++ partsN CB NB Bb g cl base a, (∀ k ∈ d.fp, k < B) ∨ (∀ k ∈ d.fp, ∃ o : Obj, W.heap[k]? = some o ∧ o.isCells = true) := by
  intro d hm
  have hh := (h.mem hm).2.1
  simp only [partsN, List.mem_cons, List.mem_append] at hm
  rcases hm with hm | rfl | rfl | rfl | hm
  · obtain ⟨g, vs, t, rfl⟩ := hX d hm
    exact Or.inr (blkC_cells hh)
  · exact Or.inr (blkC_cells hh)
  · exact Or.inr (blkC_cells hh)
  · exact Or.inr (blkC_cells hh)
  · exact Or.inl (hb d hm)
theorem IN_own (hb : ∀ d ∈ base, ∀ k ∈ d.fp, k < B) : OwnFrom B (IN H0 L CB NB Bb g cl base) := by
  rintro pre A C row hA hg hr
  exact All.record hA hg hr (partsN_cells hA optH_blk hb)
theorem IN2_own (pre : List (Nat × Ent)) (hb : ∀ d ∈ base, ∀ k ∈ d.fp, k < B) : OwnFrom B (IN2 H0 L CB NB Bb g cl base pre) := by
  rintro x A C row hA hg hr
  exact All.record (cs := [blkC H0 (flatE L) 39] ++ partsN CB NB Bb g cl base (newestL cl 0 (pre.map Prod.snd))) hA hg hr (partsN_cells (X := [blkC H0 (flatE L) 39]) hA (fun d hd => ⟨_, _, _, by simpa using hd⟩) hb)
theorem IN_fresh {b : Nat} {pre : List (Nat × Ent)} {x : Nat × Ent} {W0 W1 : World} (hA : IN H0 L CB NB Bb g cl base pre W0) (hf : FreshI H0 b L pre x W0 W1) : IN2 H0 L CB NB Bb g cl base pre x W1 := by
  unfold IN at hA
  unfold IN2
  by_cases hp : pre = []
  · have h1 := hf.first hp
    rw [optH, if_pos hp, List.nil_append] at hA
    refine hA.add (Fr.below hf.below) (blkC_good _ _ _) hf.list (fun k hk => ?_)
    have : k = H0 := by simpa [blkC] using hk
    subst this
    exact ⟨h1, (Array.getElem?_eq_some_iff.1 hf.list).1⟩
  · rw [optH, if_neg hp] at hA
    exact hA.later hf.below
end

set_option maxRecDepth 100000 in
set_option maxHeartbeats 4000000 in
theorem Newest_any {w : World} {g h b n : Nat} {L ps : List Ent} {cs : List Comp} {cl : Int} (hA : All (logP g h b (b + L.length) n ps ++ cs) w) (hk : LogOk b n L ps) :
    Calls Try.prog 33 #[.pointer (some ⟨g, 0, none⟩), .int .i64 cl] w fun e w' => e = .returned (.int .i64 (newestL cl 0 L)) ∧ All (logP g h b (b + L.length) n ps ++ cs) w' := by
  obtain ⟨base, hbase⟩ : ∃ base, Hid (base = (logP g h b (b + L.length) n ps ++ cs)) := ⟨_, hid rfl⟩
  have A6 := ((hA.addBlk [.int .i64 cl] 3).addBlk [.int .i64 0] 3).addBlk [.pointer (some ⟨g, 0, none⟩)] 23
  simp only [World.size_alloc] at A6
  obtain ⟨w6, hw6⟩ : ∃ w6, w6 = ((w.alloc (.cells #[.int .i64 cl] 3)).alloc (.cells #[.int .i64 0] 3)).alloc (.cells #[.pointer (some ⟨g, 0, none⟩)] 23) := ⟨_, rfl⟩
  have hsz : w6.heap.size = w.heap.size + 1 + 1 + 1 := by rw [hw6]; simp
  have I0 : Hid (IN (w6.heap.size + 3) L w.heap.size (w.heap.size + 1) (w.heap.size + 1 + 1) g cl base [] w6) := hid (by
    unfold IN
    rw [hw6, optH, if_pos rfl, List.nil_append, hbase.out]
    exact A6.bca)
  have BL : Hid (∀ d ∈ base, ∀ k ∈ d.fp, k < w6.heap.size) := hid (fun d hd => (I0.out.mem (List.mem_append_right _ (by simp [hd]))).2.2)
  have HW6 := hid hw6
  have HSZ := hid hsz
  have HKK := hid hk
  clear hA A6 hw6 hsz hk
  refine (callsIn_wide (n := 9)).1 ?_
  refine callsIn_of_wp_marks Try.func33 rfl trivial ?_ rfl
  simp only [Try.ntmps33, List.size_toArray, List.length_cons, List.length_nil, Nat.reduceAdd, Nat.reduceSub, Array.replicate_succ, Array.replicate_zero, List.push_toArray, List.append_toArray, List.nil_append, List.cons_append]
  gi_wp2
  refine ⟨trivial, (callsIn_wide.2 (All_any (g := g))).mono ?_⟩
  rintro e w' ⟨rfl, rfl⟩
  gi_wp2
  rw [← HW6.out]
  clear HW6
  generalize w.heap.size = N at I0 HSZ ⊢
  refine range_good (P := Try.prog) (n := 9) (by omega) (gf := 40) (lb := #[.pointer (some ⟨N + 1 + 1, 0, none⟩)]) rfl (enters_of Try.func40 (by kernel_rfl) rfl)
    (encs := fun x : Nat × Ent => #[.int .i64 (x.1 : Int), x.2.V]) (Kp := KeepH (w6.heap.size + 3)) (Fresh := fun pre x W0 W1 => FreshI (w6.heap.size + 3) b L pre x W0 W1) (S := fun ys => ys = items b L) (Sp := fun ys => ys <+: items b L) (Nm := 64) ?seq
    (fun h k => h.then k) (fun W l o o' h1 h2 => KeepH.put W l o o' h1 h2) (fun _ => rfl)
    (fun pre W => IN (w6.heap.size + 3) L N (N + 1) (N + 1 + 1) g cl base pre W)
    (fun c pre W => False)
    (fun pre x W => IN2 (w6.heap.size + 3) L N (N + 1) (N + 1 + 1) g cl base pre x W)
    (fun s A C row hs hg hr => IN_own BL.out s A C row hs hg hr)
    (fun c s A C row hs hg hr => hs)
    (fun pre s A C row hs hg hr => IN2_own pre BL.out s A C row hs hg hr) (fun pre x W0 W1 h => h.below) (fun pre x W0 W1 h hf => IN_fresh h hf)
    I0.out
    (fun x a' W => ∃ Bx, W.heap[Bx]? = some (.cells x.2.cells.toArray 39 (0, 0)) ∧ a' = { tmps := #[.pointer (some ⟨g, 0, none⟩), .int .i64 cl, undef, .pointer (some ⟨N, 0, none⟩), .int .i64 0, .pointer (some ⟨N + 1, 0, none⟩), undef, .pointer (some ⟨Bx, 0, none⟩), .pointer (some ⟨g, 0, none⟩), .func (.func 40) #[] #[.pointer (some ⟨N + 1 + 1, 0, none⟩)], .int .i64 (x.1 : Int), x.2.V, undef, undef, undef, undef, undef, undef, undef, undef, undef], defers := [] })
    (fun a' x A C row hs hg hr => by
      obtain ⟨Bx, h1, h2⟩ := hs
      refine ⟨Bx, (hg.block Bx (Array.getElem?_eq_some_iff.1 h1).1 (fun e => ?_)).trans h1, h2⟩
      obtain ⟨_, o, ho, hoc⟩ := hr Bx e.symm
      rw [h1] at ho; cases ho; cases hoc)
    ?assign ?body ?done ?stop
  case seq =>
    intro l J Jx W hbW hWs hJ hY h0
    have hA0 := I0.out
    unfold IN at hA0
    rw [optH, if_pos rfl, List.nil_append, hbase.out] at hA0
    have hA1 := hA0.later hbW
    have eBb : W.heap[N + 1 + 1]? = some (.cells [.pointer (some ⟨g, 0, none⟩)].toArray 23 (0, 0)) := hA1.blk (by simp [partsN])
    have eg : W.heap[g]? = some (.cells (headV b (b + L.length) h n).toArray 65 (0, 0)) := hA1.blk (by simp [partsN, logP])
    have eh : W.heap[h]? = some (.cells (flatE ps).toArray 39 (0, 0)) := hA1.blk (by simp [partsN, logP])
    have e3 : W.heap.size + 1 = w6.heap.size + 3 := by omega
    have key := all40 (l := l) (m := 7) (Bb := N + 1 + 1) (W := W) J Jx (KeepH (w6.heap.size + 3)) (fun A B cs h k => by rw [e3] at h ⊢; exact k cs h) (by rw [cell_at eBb]; rfl) eg eh HKK.out hJ (fun pre x W0 W1 h1 h2 h3 => hY pre x W0 W1 h1 (by rw [e3] at h2; exact h2) h3) h0
    exact key
  case assign =>
    rintro l pre x W K hA hK
    unfold IN2 at hA
    have HA := hid hA
    have HK := hid hK
    clear hA hK
    gi_wp2
    refine HK.out _ _ ⟨by simp, fun k o _ hk _ => (Below.heap_alloc _ _ _ (Array.getElem?_eq_some_iff.1 hk).1).trans hk⟩ (KeepH.of HA.out.1.2.1 ((HA.out.alloc _).1.2.1)) (HA.out.alloc _) ⟨W.heap.size, heap_alloc_new W _, rfl⟩
  case body =>
    rintro l pre x a' W hl ⟨r, hr⟩ hA ⟨Bx, hBx, rfl⟩ hlt
    unfold IN2 at hA
    have eNB := hA.tail.1.2.1
    have eCB := hA.tail.tail.1.2.1
    have c0 : W.cell? ⟨N, 0, none⟩ = some (.int .i64 cl) := by rw [cell_at eCB]; rfl
    have c1 : W.cell? ⟨N + 1, 0, none⟩ = some (.int .i64 (newestL cl 0 (pre.map Prod.snd))) := by rw [cell_at eNB]; rfl
    have f1 := free_at eNB 0
    obtain ⟨y1, y2, y3, y4, y5, y6, y7⟩ := entAt_of (range_one hBx)
    have HT : Hid (newestL cl 0 ((pre ++ [x]).map Prod.snd) = (if x.2.c = cl ∧ newestL cl 0 (pre.map Prod.snd) < x.2.n then x.2.n else newestL cl 0 (pre.map Prod.snd))) := hid (by
      rw [List.map_append]; exact newestL_snoc cl 0 (pre.map Prod.snd) x.2)
    have FIN : Hid (∀ a', newestL cl 0 ((pre ++ [x]).map Prod.snd) = a' → IN (w6.heap.size + 3) L N (N + 1) (N + 1 + 1) g cl base (pre ++ [x]) (W.setCell ⟨N + 1, 0, none⟩ (.int .i64 a')) ∧ KeepsFrom w6.heap.size W (W.setCell ⟨N + 1, 0, none⟩ (.int .i64 a')) ∧ KeepH (w6.heap.size + 3) W (W.setCell ⟨N + 1, 0, none⟩ (.int .i64 a'))) := hid (fun a' ha => by
      have A2 := (hA.swap.setBlk 0 (.int .i64 a')).swap
      refine ⟨?_, keeps_grown (grownBy_setCell' W _ _) (fun r e => by cases e; exact ⟨_, eNB, rfl⟩), KeepH.of hA.1.2.1 A2.1.2.1⟩
      unfold IN
      rw [optH, if_neg (by simp), ha]
      exact A2)
    have SAME : Hid (newestL cl 0 ((pre ++ [x]).map Prod.snd) = newestL cl 0 (pre.map Prod.snd) → IN (w6.heap.size + 3) L N (N + 1) (N + 1 + 1) g cl base (pre ++ [x]) W ∧ KeepsFrom w6.heap.size W W ∧ KeepH (w6.heap.size + 3) W W) := hid (fun ha => by
      refine ⟨?_, ⟨Nat.le_refl _, fun k o _ hk _ => hk⟩, fun cs hc => hc⟩
      unfold IN
      rw [optH, if_neg (by simp), ha]
      exact hA)
    clear hA eNB eCB hBx I0
    generalize newestL cl 0 (pre.map Prod.snd) = a at *
    by_cases h1 : x.2.c = cl
    · have q1 : (x.2.c == cl) = true := by simpa using h1
      have H1 := hid h1
      clear h1
      by_cases h2 : a < x.2.n
      · have HF := hid (FIN.out x.2.n (by rw [HT.out, if_pos ⟨H1.out, h2⟩]))
        clear FIN SAME HT
        gi_wp2
        exact ⟨HF.out.2.1, HF.out.2.2, HF.out.1⟩
      · have HF := hid (FIN.out a (by rw [HT.out, if_neg (fun h => h2 h.2)]))
        clear FIN SAME HT
        gi_wp2
        exact ⟨HF.out.2.1, HF.out.2.2, HF.out.1⟩
    · have q1 : (x.2.c == cl) = false := by simpa using h1
      have HF := hid (SAME.out (by rw [HT.out, if_neg (fun h => h1 h.1)]))
      clear FIN SAME HT
      gi_wp2
      exact ⟨HF.out.2.1, HF.out.2.2, HF.out.1⟩
  case done =>
    rintro D ys W hD hS hA hK
    have hA' := hA
    unfold IN at hA
    have AF := hid ((hA.record (grownBy_putObj' W D (.deferred none)) (B := w6.heap.size) (fun r e => by cases e; exact ⟨hD, _, hK, rfl⟩) (partsN_cells hA optH_blk BL.out)).right)
    subst hS
    rw [items_snd] at hA AF
    have eNB : W.heap[N + 1]? = some (.cells [.int .i64 (newestL cl 0 L)].toArray 3 (0, 0)) := hA.blk (by simp [partsN])
    have c1 : W.cell? ⟨N + 1, 0, none⟩ = some (.int .i64 (newestL cl 0 L)) := by rw [cell_at eNB]; rfl
    have HK := hid hK
    rw [hbase.out] at AF
    clear hA hA' hK I0 eNB
    gi_wp2
    refine ⟨by simp, .inl ⟨_, _, rfl, run_takeDeferred HK.out, ?_⟩⟩
    exact ⟨_, results_tmp rfl _ _ _, rfl, AF.out.tail.tail.tail⟩
  case stop =>
    rintro D c ys W hD hS hA hK
    exact hA.elim
end Go.Proofs.Ythjoppgomopkfaa

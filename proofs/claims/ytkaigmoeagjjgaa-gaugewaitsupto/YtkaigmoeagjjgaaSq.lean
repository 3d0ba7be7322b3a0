import Derived.Test.YtkaigmoeagjjgaaVal
import Derived.Maps.AppendAt
import Derived.Maps.OwnIn
namespace Go.Proofs.Ytkaigmoeagjjgaa
open Go.RowKit Go.Shelf
attribute [local go_sem] Oper.semAt_some
set_option linter.unusedVariables false

theorem All.record {cs : List Comp} {W W' : World} {row : Option Nat} {B : Nat} (h : All cs W) (hg : W.grownBy W' row) (hr : ∀ r, row = some r → B ≤ r ∧ ∃ o : Obj, W.heap[r]? = some o ∧ o.isCells = false) (hc : ∀ d ∈ cs, (∀ k ∈ d.fp, k < B) ∨ (∀ k ∈ d.fp, ∃ o : Obj, W.heap[k]? = some o ∧ o.isCells = true)) : All cs W' := by
  refine h.kept (grown_fr hg) (fun d hd k hk hkd => ?_)
  obtain ⟨hB, o, ho, hoc⟩ := hr k (by simpa using hk)
  rcases hc d hd with h1 | h1
  · have := h1 k hkd; omega
  · obtain ⟨o', ho', hoc'⟩ := h1 k hkd
    rw [ho] at ho'; cases ho'; rw [hoc] at hoc'; cases hoc'
theorem ownC_cells {e : TypeId} {v : Value} {vs : List Value} {W : World} (h : (ownC e v vs).holds W) : ∀ k ∈ (ownC e v vs).fp, ∃ o : Obj, W.heap[k]? = some o ∧ o.isCells = true := by
  intro k hk
  have h' : W.ownsRow 0 e 1 v vs.length vs := h
  rcases h'.2 with ⟨rfl, _⟩ | ⟨g, cap, cur, rfl, hg, hgg, rest⟩
  · simp [ownC, Value.ownBlock] at hk
  · simp [ownC, Value.ownBlock] at hk
    subst hk
    exact ⟨_, hgg, rfl⟩
theorem blkC_cells {g : Nat} {vs : List Value} {t : TypeId} {W : World} (h : (blkC g vs t).holds W) : ∀ k ∈ (blkC g vs t).fp, ∃ o : Obj, W.heap[k]? = some o ∧ o.isCells = true := by
  intro k hk
  have : k = g := by simpa [blkC] using hk
  subst this
  exact ⟨_, h, rfl⟩
theorem keeps_grown {B : Nat} {W W' : World} {row : Option Nat} (hg : W.grownBy W' row) (hr : ∀ r, row = some r → ∃ o : Obj, W.heap[r]? = some o ∧ o.isCells = true) : KeepsFrom B W W' :=
  ⟨hg.size, fun k o _ hk ho => (hg.block k (Array.getElem?_eq_some_iff.1 hk).1 (fun e => by
    obtain ⟨o', h1, h2⟩ := hr k e.symm
    rw [hk] at h1; cases h1; rw [ho] at h2; cases h2)).trans hk⟩
theorem KeepsFrom.then {B : Nat} {W W1 W2 : World} (h : KeepsFrom B W W1) (k : KeepsFrom B W1 W2) : KeepsFrom B W W2 :=
  ⟨Nat.le_trans h.size k.size, fun i o hB hi ho => k.same i o hB (h.same i o hB hi ho) ho⟩
theorem below_join {n₀ : Nat} {w W W' : World} (h1 : Below n₀ w W) (h2 : Below n₀ w W') (hs : W.heap.size ≤ W'.heap.size) : Below n₀ W W' :=
  ⟨h2.os.trans h1.os.symm, h2.tape.trans h1.tape.symm, h2.output.trans h1.output.symm, hs, fun k hk => (h2.block k hk).trans (h1.block k hk).symm⟩
theorem inC_of {w W : World} {cs : List Comp} (h : All cs W) (hm : inC w ∈ cs) : Below w.heap.size w W := (h.mem hm).2.1

/-- Between two rounds: what has come, in the box. -/
def IB (w : World) (pre : List Int) (W : World) : Prop := ∃ v, All [ownC 3 v (ints pre), blkC w.heap.size [v] 22, inC w] W
theorem IB_own {w : World} {B : Nat} (hB : w.heap.size ≤ B) : OwnFrom B (IB w) := by
  rintro pre A C row ⟨v, hA⟩ hg hr
  refine ⟨v, hA.record hg hr fun d hd => ?_⟩
  have hh := (hA.mem hd).2.1
  simp only [List.mem_cons, List.not_mem_nil, or_false] at hd
  rcases hd with rfl | rfl | rfl
  · exact Or.inr (ownC_cells hh)
  · exact Or.inr (blkC_cells hh)
  · exact Or.inl fun k hk => Nat.lt_of_lt_of_le (List.mem_range.1 hk) hB

theorem Try.info3 : (Try.prog.info? 3).map (fun i => (i.zero, i.size, i.bytes)) = some (some (.int .i64 0), 1, 8) := by kernel_rfl

set_option maxRecDepth 100000 in
set_option maxHeartbeats 4000000 in
theorem appendSeq_any {w : World} {Bs : Nat} {ao : Option Addr} {cap : Nat} {zs : List Int} (hz : zs.length ≤ 1048576) (hBs : Bs < w.heap.size) (hc : w.cell? ⟨Bs, 0, none⟩ = some (.slice ao zs.length cap)) (hI : IntsIn w.heap.size w (.slice ao zs.length cap) zs) :
    Calls Try.prog 49 #[.slice none 0 0, .func (.func 47) #[] #[.pointer (some ⟨Bs, 0, none⟩)]] w fun e w' => ∃ v, e = .returned v ∧ All [ownC 3 v (ints zs), inC w] w' := by
  have A0 : All [ownC 3 (.slice none 0 0) (ints []), blkC w.heap.size [.slice none 0 0] 22, inC w] (w.alloc (.cells #[.slice none 0 0] 22)) :=
    ((All.came w).addBlk [.slice none 0 0] 22).addNil
  refine (callsIn_wide (n := 9)).1 ?_
  refine callsIn_of_wp_marks Try.func49 rfl trivial ?_ rfl
  simp only [Try.ntmps49, List.size_toArray, List.length_cons, List.length_nil, Nat.reduceAdd, Nat.reduceSub, Array.replicate_succ, Array.replicate_zero, List.push_toArray, List.append_toArray, List.nil_append, List.cons_append]
  gi_wp2
  have hbA : Below w.heap.size w (w.alloc (.cells #[.slice none 0 0] 22)) := (Below.refl _ w).alloc (Nat.le_refl _) _
  refine wpIn_rangeFunc_ownG (F := Fence.wide) (n := 9) rfl (by omega) (gf := 47) (lb := #[.pointer (some ⟨Bs, 0, none⟩)]) rfl trivial (enters_of Try.func47 (by kernel_rfl) rfl)
    (values_stops (n := 8) (n₀ := w.heap.size) (by omega) hz (by simp; omega) (by simp) ((hbA.cell (p := ⟨Bs, 0, none⟩) hBs).trans hc) (hI.below hbA)) belowK_t (belowK_b (by simp)) (Below.refl _ _) (fun _ => rfl)
    (IB w) (fun _ _ _ => False) (IB_own (by simp)) (fun _ _ _ _ _ hs _ _ => hs) ⟨_, A0⟩
    (fun x => { tmps := #[.slice none 0 0, .func (.func 47) #[] #[.pointer (some ⟨Bs, 0, none⟩)], .pointer (some ⟨w.heap.size, 0, none⟩), undef, .slice none 0 0, .int .i64 x, .func (.func 47) #[] #[.pointer (some ⟨Bs, 0, none⟩)], .int .i64 x, undef, undef, undef, undef, undef], defers := [] }) ?assign ?body ?done ?stop
  case assign =>
    intro l x W K hK
    gi_wp2
    exact hK
  case body =>
    rintro l pre x W ⟨v, hA⟩ hlt
    obtain ⟨i1, hi1, hz0, hz1, hz2⟩ := info_parts Try.info3
    have hlp : (ints pre).length = pre.length := by simp
    have hrow0 : W.ownsRow 0 3 1 v pre.length (ints pre) := by have := hA.1.2.1; rw [← hlp]; exact this
    obtain ⟨oo, oc, rfl⟩ := owns_form hrow0
    have eB : W.heap[w.heap.size]? = some (.cells [.slice oo pre.length oc].toArray 22 (0, 0)) := hA.2.2.1.2.1
    have c1 : W.cell? ⟨w.heap.size, 0, none⟩ = some (.slice oo pre.length oc) := by rw [cell_at eB]; rfl
    have lB : w.heap.size < W.heap.size := (Array.getElem?_eq_some_iff.1 eB).1
    have A1 := hA.alloc (.cells #[.int .i64 x] 3)
    have hrow : (W.alloc (.cells #[.int .i64 x] 3)).ownsRow 0 3 1 (.slice oo pre.length oc) pre.length (ints pre) := by
      have h' : (W.alloc (.cells #[.int .i64 x] 3)).ownsRow 0 3 1 (.slice oo pre.length oc) (ints pre).length (ints pre) := A1.1.2.1
      rwa [hlp] at h'
    have key : ∀ (v' : Value) (w3 : World), w3.ownsRow 0 3 1 v' (pre.length + 1) (ints pre ++ [.int .i64 x]) → (W.alloc (.cells #[.int .i64 x] 3)).grownBy w3 (Value.slice oo pre.length oc).ownBlock → (v'.ownBlock = (Value.slice oo pre.length oc).ownBlock ∨ v'.ownBlock = some (W.alloc (.cells #[.int .i64 x] 3)).heap.size) →
        ∃ o2 c2, v' = .slice o2 (pre.length + 1) c2 ∧ w3.cell? ⟨w.heap.size, 0, none⟩ = some (.slice oo pre.length oc) ∧ w3.frozen? ⟨w.heap.size, 0, none⟩ = false ∧
          Hid (KeepsFrom (w.alloc (.cells #[.slice none 0 0] 22)).heap.size W (w3.setCell ⟨w.heap.size, 0, none⟩ v') ∧ Below w.heap.size W (w3.setCell ⟨w.heap.size, 0, none⟩ v') ∧ IB w (pre ++ [x]) (w3.setCell ⟨w.heap.size, 0, none⟩ v')) := by
      intro v' w3 hown hgr hat
      obtain ⟨o2, c2, hv'⟩ := owns_form hown
      have hl2 : (ints (pre ++ [x])).length = pre.length + 1 := by simp
      have A2 := All.ownGrow (vs' := ints (pre ++ [x])) A1 (base := 0) (by rw [hl2, show ints (pre ++ [x]) = ints pre ++ [.int .i64 x] by simp]; exact hown) hgr hat
      have e1 : w3.heap[w.heap.size]? = some (.cells [.slice oo pre.length oc].toArray 22 (0, 0)) := A2.2.2.1.2.1
      have A3 := (A2.swap.setBlk 0 v').swap
      refine ⟨o2, c2, hv', by rw [cell_at e1]; rfl, free_at e1 0, hid ⟨?_, ?_, v', A3⟩⟩
      · refine KeepsFrom.then (keeps_grown (World.grownBy_alloc W _ none) (fun r e => by cases e)) (KeepsFrom.then (keeps_grown hgr (fun r e => ?_)) (keeps_grown (grownBy_setCell' w3 _ v') (fun r e => by cases e; exact ⟨_, e1, rfl⟩)))
        exact ownC_cells A1.1.2.1 r (by simp [ownC, e])
      · refine below_join (inC_of hA (by simp)) (inC_of A3 (by simp)) ?_
        have := hgr.size
        simp [World.setCell] at this ⊢
        omega
    have hcell : ∀ j u, [Value.int .i64 x][j]? = some u → (W.alloc (.cells #[.int .i64 x] 3)).cell? ((⟨W.heap.size, 0, none⟩ : Addr).add j) = some u := fun j u hu => by
      rw [Addr.add_lit, cell_at (heap_alloc_new W _), Nat.zero_add]
      exact (List.getElem?_toArray ..).trans hu
    have hone : ∀ u ∈ [Value.int .i64 x], u.oneCell' = true := by simp [Value.oneCell']
    have HR := hid hrow
    have KEY := hid key
    have HLT := hid hlt
    clear key hrow A1 hrow0 hA eB hlt hlp
    gi_wp2_with (gi_at_builtin; go_loud (refine wpListIn_append_own_at _ rfl (.tmp 8) (.tmp 10) 22 rfl 0 3 i1 (.int .i64 0) 1 8 Try.underlying22 hi1 hz0 hz1 hz2 rfl (by decide) _ _ _ rfl HR.out ⟨W.heap.size, 0, none⟩ 1 1 [.int .i64 x] rfl rfl hcell hone (by have := HLT.out; unfold maxLen; omega) (by have := HLT.out; omega) (by have := HLT.out; omega) ?_; intro v' w3 hown hgr hnil hat; (obtain ⟨o2, c2, hv2, k1, k2, HF⟩ := KEY.out v' w3 hown hgr hat); subst hv2; clear hown hgr hnil hat))
    exact HF.out
  case done =>
    rintro D ys W hD rfl ⟨v, hA⟩ hK
    have eB : W.heap[w.heap.size]? = some (.cells [v].toArray 22 (0, 0)) := hA.2.2.1.2.1
    have c1 : W.cell? ⟨w.heap.size, 0, none⟩ = some v := by rw [cell_at eB]; rfl
    obtain ⟨o1, o3, rfl⟩ := owns_form (show W.ownsRow 0 3 1 v _ _ from hA.1.2.1)
    rw [List.length_map] at c1
    have fin : All [ownC 3 (.slice o1 (ints ys).length o3) (ints ys), inC w] (W.putObj D (.deferred none)) := by
      have h1 := IB_own (w := w) (B := w.heap.size) (Nat.le_refl _) ys W _ (some D) ⟨_, hA⟩ (grownBy_putObj' W D (.deferred none)) (fun r e => by cases e; exact ⟨by simp at hD; omega, _, hK, rfl⟩)
      have h2 := hA.record (grownBy_putObj' W D (.deferred none)) (B := w.heap.size) (fun r e => by cases e; exact ⟨by simp at hD; omega, _, hK, rfl⟩) (fun d hd => by
        have hh := (hA.mem hd).2.1
        simp only [List.mem_cons, List.not_mem_nil, or_false] at hd
        rcases hd with rfl | rfl | rfl
        · exact Or.inr (ownC_cells hh)
        · exact Or.inr (blkC_cells hh)
        · exact Or.inl fun k hk => List.mem_range.1 hk)
      exact ⟨h2.1, fun d hd => h2.2.1 d (by simp at hd ⊢; exact .inr hd), h2.2.2.2.2⟩
    rw [List.length_map] at fin
    have FIN := hid fin
    have HK := hid hK
    clear fin hA hK eB
    gi_wp2
    refine ⟨by simp, .inl ⟨_, _, rfl, run_takeDeferred HK.out, ?_⟩⟩
    exact ⟨_, results_tmp (t := 4) rfl _ _ _, _, rfl, FIN.out⟩
  case stop =>
    rintro D c pre W _ _ h _
    exact h.elim
end Go.Proofs.Ytkaigmoeagjjgaa

import Derived.Test.YtmpbdncgilahkaaRNew
import Derived.Deep.RegionHeld3
namespace Go.Proofs.Ytmpbdncgilahkaa
open Go.RowKit
set_option linter.unusedVariables false

theorem Try.info4 : (Try.prog.info? 4).map (fun i => (i.zero, i.size, i.bytes)) = some (some (.bool false), 1, 1) := by kernel_rfl

/-- Append in a region that draws its order. -/
theorem step_append_own {P : Program} {w : World} {ops : Array Oper} {o : Oper} {a : Act} {K : Act → World → Prop} {Q : Exit → Act → World → Prop} {E : Prop} (hgd : o.guard = none) (s x : Operand) (t : TypeId)
    (ho : o.op = .call { callee := .builtin .append, args := #[s, x], argTypes := #[t, t] })
    (base : Nat) (e : TypeId) (i : TypeInfo) (z : Value) (size bytes : Nat) (ht : P.underlying t = some (.slice e)) (hi : P.info? e = some i) (hz : i.zero = some z)
    (hsize : i.size = size) (hby : i.bytes = bytes) (hzs : z.cells.size = size) (hsz : 0 < size)
    (v : Value) (n : Nat) (xs : List Value) (hs : a.eval s = v) (hown : w.ownsRow base e size v n xs)
    (ad : Addr) (m c : Nat) (news : List Value) (hx : a.eval x = .slice (some ad) m c) (hl : news.length = m * size) (hnews : ∀ j u, news[j]? = some u → w.cell? (ad.add j) = some u) (h1 : ∀ u ∈ news, u.oneCell' = true)
    (h63 : n + m ≤ maxLen) (hbytes : (n + m) * bytes ≤ 140737488355328) (hbase : base ≤ w.heap.size)
    (h : ∀ ao cap w', w'.ownsRow base e size (.slice ao (n + m) cap) (n + m) (xs ++ news) → w.grownBy w' v.ownBlock → K (a.put o.dst (.slice ao (n + m) cap)) w') :
    if Region.wanted o (yielded ops a.tmps) = true then Oper.wp P o a w K Q else E := by
  have hw : Region.wanted o (yielded ops a.tmps) = true := by simp [Region.wanted, hgd]
  rw [if_pos hw]
  obtain ⟨v', w', hr, h2, h3, h4, h5⟩ := run_append_own_at (P := P) w base t o.type e i z size bytes ht hi hz hsize hby hzs hsz v n xs hown ad m c news hl hnews h1 h63 hbytes hbase
  obtain ⟨ao, cap, hv⟩ := owns_form h2
  subst hv
  unfold Oper.wp execOp
  simp only [ho, resolve, invoke, builtin, Sem.run_bind, Sem.run_pure, Result.andThen_ok, List.map_toArray, List.map_cons, List.map_nil, hs, hx, hr]
  exact h ao cap w' h2 h3

abbrev SC (w : World) (t : Rfs) (W : World) : Prop := W.cell? ⟨t.r, 0, none⟩ = some (.slice (some ⟨t.s, 0, none⟩) t.n t.cs) ∧ W.cell? ⟨t.r, 1, none⟩ = some (.slice (some ⟨t.p, 0, none⟩) t.n t.cp) ∧ Below w.heap.size w W

theorem SC.below {w W W' : World} {t : Rfs} (h : SC w t W) (hr : t.r < w.heap.size) (hb : Below w.heap.size W W') : SC w t W' :=
  ⟨(hb.cell (p := ⟨t.r, 0, none⟩) hr).trans h.1, (hb.cell (p := ⟨t.r, 1, none⟩) hr).trans h.2.1, h.2.2.trans hb⟩
theorem SC.alloc {w W : World} {t : Rfs} (h : SC w t W) (hr : t.r < w.heap.size) (o : Obj) : SC w t (W.alloc o) := h.below hr ((Below.refl _ W).alloc h.2.2.size o)
theorem SC.grown {w W W' : World} {t : Rfs} {k : Nat} (h : SC w t W) (hr : t.r < w.heap.size) (hg : W.grownBy W' (some k)) (hk : w.heap.size ≤ k) : SC w t W' :=
  h.below hr ((Below.refl _ W).grown hg h.2.2.size (fun j e => by cases e; exact hk))
theorem SC.size {w W : World} {t : Rfs} (h : SC w t W) : w.heap.size ≤ W.heap.size := h.2.2.size
theorem bools_one (xs : List Bool) : ∀ v ∈ bools xs, v.oneCell' = true := by
  intro v hv
  obtain ⟨x, _, rfl⟩ := List.mem_map.1 hv
  rfl
theorem own0 {W : World} {k B : Nat} {e : TypeId} (h : W.heap[k]? = some (.cells #[] e (0, 0))) (hB : B ≤ k) : W.ownsRow B e 1 (.slice (some ⟨k, 0, none⟩) 0 0) 0 [] := by
  refine ⟨rfl, .inr ⟨k, 0, #[], rfl, hB, h, ?_, ?_, ?_, rfl⟩⟩
  · omega
  · unfold maxLen; omega
  · rfl

theorem own_form {w : World} {B n cap : Nat} {e : TypeId} {ao : Option Addr} {xs : List Value} (h : w.ownsRow B e 1 (.slice ao n cap) n xs) (hn : 1 ≤ n) : ∃ g, ao = some ⟨g, 0, none⟩ ∧ B ≤ g ∧ RowX w g e xs := by
  have h1 := h.1
  rcases h.2 with ⟨e0, e1⟩ | ⟨g, cap', cur, e0, hg0, hg, hn', hm, hcs, ht⟩
  · omega
  · simp only [Value.slice.injEq] at e0
    refine ⟨g, e0.1, hg0, cur, hg, ?_⟩
    have hl : xs.length = n * 1 := h.1
    rw [hl]
    exact ht
theorem own_kept {w w' : World} {B n k : Nat} {v : Value} {xs : List Value} {cs : Array Value} (h : w.ownsRow B 3 1 v n xs) (hg : w.grownBy w' (some k)) (hk : w.heap[k]? = some (.cells cs 4 (0, 0))) : w'.ownsRow B 3 1 v n xs := by
  refine h.kept hg ?_
  rcases h.2 with ⟨rfl, _⟩ | ⟨g, cap', cur, rfl, hg0, hg1, _⟩
  · exact .inl rfl
  · refine .inr fun e => ?_
    obtain rfl : g = k := by simpa [Value.ownBlock] using e
    rw [hg1] at hk
    simp at hk
theorem cloned {wB : World} {B n capI capB : Nat} {aoI aoB : Option Addr} {said : List Int} {spoke : List Bool} (h1 : 1 ≤ n) (h7 : n ≤ 7) (l1 : said.length = n) (l2 : spoke.length = n)
    (hI : wB.ownsRow B 3 1 (.slice aoI n capI) n (ints said)) (hB : wB.ownsRow B 4 1 (.slice aoB n capB) n (bools spoke)) :
    ∃ s p, aoI = some ⟨s, 0, none⟩ ∧ aoB = some ⟨p, 0, none⟩ ∧ B ≤ s ∧ B ≤ p ∧ s < wB.heap.size ∧ Rf (wB.alloc (.cells #[.slice (some ⟨s, 0, none⟩) n capI, .slice (some ⟨p, 0, none⟩) n capB] 80)) ⟨wB.heap.size, s, p, capI, capB, n, said, spoke⟩ := by
  obtain ⟨s, rfl, hs, rI⟩ := own_form hI h1
  obtain ⟨p, rfl, hp, rB⟩ := own_form hB h1
  refine ⟨s, p, rfl, rfl, hs, hp, rI.lt, ⟨heap_alloc_new _ _, rI.keep (Below.heap_alloc wB _ s rI.lt), rB.keep (Below.heap_alloc wB _ p rB.lt), l1, l2, h1, h7, ?_, ?_, ?_⟩⟩
  · have := rI.lt; simp only; omega
  · have := rB.lt; simp only; omega
  · simp only
    rintro rfl
    obtain ⟨c1, e1, _⟩ := rI
    obtain ⟨c2, e2, _⟩ := rB
    rw [e1] at e2
    simp at e2

theorem em3 (w : World) (e : TypeId) : (w.alloc (.cells #[] e)).drew.heap[w.heap.size]? = some (.cells #[] e (0, 0)) := heap_alloc_new w _
theorem em1 (w : World) (e : TypeId) (o : Obj) : ((w.alloc (.cells #[] e)).alloc o).drew.heap[w.heap.size]? = some (.cells #[] e (0, 0)) := (Below.heap_alloc (w.alloc (.cells #[] e)) o w.heap.size (by simp)).trans (heap_alloc_new w _)
theorem em2 (w : World) (e : TypeId) (o : Obj) : ((w.alloc o).alloc (.cells #[] e)).drew.heap[w.heap.size + 1]? = some (.cells #[] e (0, 0)) := by
  have := heap_alloc_new (w.alloc o) (.cells #[] e)
  rw [World.size_alloc] at this
  exact this
theorem em4 (w : World) (e : TypeId) : (w.alloc (.cells #[] e)).heap[w.heap.size]? = some (.cells #[] e (0, 0)) := heap_alloc_new w _

set_option maxHeartbeats 1600000 in
set_option maxRecDepth 1000000 in
theorem RClone {w : World} {t : Rfs} (h : Rf w t) : Calls Try.prog 24 #[.pointer (some ⟨t.r, 0, none⟩)] w fun e w' => ∃ u : Rfs, e = .returned (.pointer (some ⟨u.r, 0, none⟩)) ∧ Below w.heap.size w w' ∧ Rf w' u ∧ u.n = t.n ∧ u.said = t.said ∧ u.spoke = t.spoke ∧ w.heap.size ≤ u.r ∧ w.heap.size ≤ u.s ∧ w.heap.size ≤ u.p := by
  have c0 := h.c0
  have c1 := h.c1
  have hr := (Array.getElem?_eq_some_iff.1 h.blk).1
  have hs0 : SC w t w := ⟨c0, c1, Below.refl _ _⟩
  have H := hid h
  clear h c0 c1
  go_enter Try.func24, Try.ntmps24
  go_wp2
  obtain ⟨iI, hiI, zI0, zI1, zI2⟩ := info_parts Try.info3
  obtain ⟨iB, hiB, zB0, zB1, zB2⟩ := info_parts Try.info4
  have cI : Hid (∀ W, SC w t W → ∀ j u, (ints t.said)[j]? = some u → W.cell? ((⟨t.s, 0, none⟩ : Addr).add j) = some u) := hid fun W hW j u hu => by
    rw [Addr.add_lit, Nat.zero_add]
    exact (hW.2.2.cell (p := ⟨t.s, j, none⟩) H.out.ints.lt).trans (H.out.ints.cell hu)
  have cB : Hid (∀ W, SC w t W → ∀ j u, (bools t.spoke)[j]? = some u → W.cell? ((⟨t.p, 0, none⟩ : Addr).add j) = some u) := hid fun W hW j u hu => by
    rw [Addr.add_lit, Nat.zero_add]
    exact (hW.2.2.cell (p := ⟨t.p, j, none⟩) H.out.bools.lt).trans (H.out.bools.cell hu)
  have lI : (ints t.said).length = t.n * 1 := by rw [List.length_map, H.out.lsaid]; omega
  have lB : (bools t.spoke).length = t.n * 1 := by rw [List.length_map, H.out.lspoke]; omega
  have l1 : 0 + t.n ≤ maxLen := by have := H.out.seven; unfold maxLen; omega
  have l2 : (0 + t.n) * 8 ≤ 140737488355328 := by have := H.out.seven; omega
  have l3 : (0 + t.n) * 1 ≤ 140737488355328 := by have := H.out.seven; omega
  have lI := hid lI
  have lB := hid lB
  have l1 := hid l1
  have l2 := hid l2
  have l3 := hid l3
  go_region_held3 (fun W => SC w t W) (first | exact SC.alloc (by assumption) hr _ | exact hs0.below hr (bd w) | exact SC.grown (by assumption) hr (by assumption) (by first | exact Nat.le_refl _ | exact Nat.le_succ _ | exact SC.size (by assumption) | (have := hgI.size; simp at this ⊢; omega) | (have := hgB.size; simp at this ⊢; omega)))
    (first
      | (refine step_append_own (by rfl) (.tmp 3) (.tmp 7) 28 (by rfl) w.heap.size 3 iI (.int .i64 0) 1 8 Try.underlying28 hiI zI0 zI1 zI2 rfl (by decide) _ 0 [] (by rfl) ?qI ⟨t.s, 0, none⟩ t.n t.cs (ints t.said) (by rfl) lI.out (cI.out _ (by assumption)) (ints_one _) l1.out l2.out (SC.size (by assumption)) ?_
         case qI => show World.ownsRow _ _ _ _ (.slice (some ⟨_, 0, none⟩) 0 0) 0 []; first | exact own0 (em3 _ _) (Nat.le_refl _) | exact own0 (em1 _ _ _) (Nat.le_refl _) | exact own0 (em2 _ _ _) (Nat.le_succ _) | exact own0 (em4 _ _) (by have := hgB.size; simp at this; omega) | exact own0 ((hgB.block w.heap.size (by simp; omega) (by simp)).trans (em1 _ _ _)) (Nat.le_refl _) | exact own0 ((hgB.block (w.heap.size + 1) (by simp) (by simp)).trans (em2 _ _ _)) (Nat.le_succ _)
         intro aoI capI wI hownI hgI; replace hgI : World.grownBy _ wI (some _) := hgI)
      | (refine step_append_own (by rfl) (.tmp 9) (.tmp 13) 34 (by rfl) w.heap.size 4 iB (.bool false) 1 1 Try.underlying34 hiB zB0 zB1 zB2 rfl (by decide) _ 0 [] (by rfl) ?qB ⟨t.p, 0, none⟩ t.n t.cp (bools t.spoke) (by rfl) lB.out (cB.out _ (by assumption)) (bools_one _) l1.out l3.out (SC.size (by assumption)) ?_
         case qB => show World.ownsRow _ _ _ _ (.slice (some ⟨_, 0, none⟩) 0 0) 0 []; first | exact own0 (em3 _ _) (Nat.le_refl _) | exact own0 (em1 _ _ _) (Nat.le_refl _) | exact own0 (em2 _ _ _) (Nat.le_succ _) | exact own0 (em4 _ _) (by have := hgI.size; simp at this; omega) | exact own0 ((hgI.block w.heap.size (by simp; omega) (by simp)).trans (em1 _ _ _)) (Nat.le_refl _) | exact own0 ((hgI.block (w.heap.size + 1) (by simp) (by simp)).trans (em2 _ _ _)) (Nat.le_succ _)
         intro aoB capB wB hownB hgB; replace hgB : World.grownBy _ wB (some _) := hgB))
  all_goals
    have hI0 := own_kept (B := w.heap.size) (n := 0 + t.n) (v := .slice aoI (0 + t.n) capI) (xs := [] ++ ints t.said) (by first | exact hownI | exact World.ownsRow.alloc hownI _) hgB (by first | exact em4 wI 4 | exact (hgI.block (w.heap.size + 1) (by simp) (by simp)).trans (em2 w 4 _) | exact (hgI.block w.heap.size (by simp; omega) (by simp)).trans (em1 w 4 _))
    have hI : Hid (wB.ownsRow w.heap.size 3 1 (.slice aoI t.n capI) t.n (ints t.said)) := hid (by simpa using hI0)
    have hB : Hid (wB.ownsRow w.heap.size 4 1 (.slice aoB t.n capB) t.n (bools t.spoke)) := hid (by simpa using hownB)
    obtain ⟨s, p, rfl, rfl, hs, hp, hlt, hRf⟩ := cloned H.out.one H.out.seven H.out.lsaid H.out.lspoke hI.out hB.out
    have hRf := hid hRf
    have hHB := hid (show Below w.heap.size w _ from (show SC w t _ by assumption).2.2)
    clear hI0 hI hB hownI hownB hgI hgB
    go_wp2
    go_ret
    exact ⟨_, rfl, hHB.out, hRf.out, rfl, rfl, rfl, Nat.le_trans hs (Nat.le_of_lt hlt), hs, hp⟩
end Go.Proofs.Ytmpbdncgilahkaa

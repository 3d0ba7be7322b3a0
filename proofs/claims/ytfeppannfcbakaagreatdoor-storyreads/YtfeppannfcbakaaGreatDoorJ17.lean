import Derived.Test.YtfeppannfcbakaaGreatDoorJ16
import Derived.Deep.RegionWith
import Derived.Deep.DrawnRows
import Derived.Deep.AppendLies
import Derived.Deep.RegionLaw
namespace Go.Proofs.YtfeppannfcbakaaGreatDoor
open Go.RowKit
set_option linter.unusedVariables false
set_option maxRecDepth 1000000
set_option maxHeartbeats 1600000
def byR (v : Value) (l : List UInt8) : Comp := ⟨fun w => w.ownsRow 0 5 1 v l.length (cellsB l), v.ownBlock.toList⟩
theorem byR_eq (v : Value) (l : List UInt8) : byR v l = ownC 5 v (cellsB l) := by
 simp only [byR, ownC, cellsB_length]
theorem Tryz.info32 : (Tryz.prog.info? 32).map (fun i => (i.zero, i.size, i.bytes)) = some (some (.slice none 0 0), 1, 24) := by kernel_rfl
theorem byR_good (v : Value) (l : List UInt8) : (byR v l).Good := by rw [byR_eq]; exact ownC_good _ _ _
theorem All.addByR {cs : List Comp} {w w' : World} {v : Value} {l : List UInt8} (h : All cs w) (hb : Below w.heap.size w w') (ho : w'.ownsRow w.heap.size 5 1 v l.length (cellsB l)) : All (byR v l :: cs) w' := by
 rw [byR_eq]
 exact h.addOwn hb (by rw [cellsB_length]; exact ho)
attribute [local go_sem ↓] Go.wp_at_zero Go.wp_at_succ
structure EnB where
 a : Value
 m : Value
 la : List UInt8
 lm : List UInt8
structure ShBox (w : World) (S : Nat) (ov wv : Value) (es : List EnB) : Prop where
 box : w.heap[S]? = some (.cells #[ov, wv] 77 (0, 0))
 orow : w.ownsRow 0 32 1 ov es.length (es.map EnB.a)
 wrow : w.ownsRow 0 32 1 wv es.length (es.map EnB.m)
theorem ShBox.at {w : World} {S : Nat} {ov wv : Value} {es : List EnB} (h : ShBox w S ov wv es) (i : Nat) (e : EnB) (hi : es[i]? = some e) :
   ∃ g c g' c', ov = .slice (some ⟨g, 0, none⟩) es.length c ∧ wv = .slice (some ⟨g', 0, none⟩) es.length c' ∧ w.cell? ⟨g, i, none⟩ = some e.a ∧ w.cell? ⟨g', i, none⟩ = some e.m := by
 have hlt : i < es.length := (List.getElem?_eq_some_iff.1 hi).1
 have q1 := fun g => World.ownsRow.cells h.orow (g := g)
 have q2 := fun g => World.ownsRow.cells h.wrow (g := g)
 rcases h.orow.2 with ⟨_, e0⟩ | ⟨g, c, _, eo, _⟩
 · omega
 rcases h.wrow.2 with ⟨_, e0⟩ | ⟨g', c', _, ew, _⟩
 · omega
 refine ⟨g, c, g', c', eo, ew, ?_, ?_⟩
 · have := q1 g (by rw [eo]; rfl) i e.a (by simp [hi])
   simpa [Addr.add_lit] using this
 · have := q2 g' (by rw [ew]; rfl) i e.m (by simp [hi])
   simpa [Addr.add_lit] using this
theorem ShBox.forms {w : World} {S : Nat} {ov wv : Value} {es : List EnB} (h : ShBox w S ov wv es) : ∃ ao c ao' c', ov = .slice ao es.length c ∧ wv = .slice ao' es.length c' := by
 obtain ⟨ao, c, e⟩ := owns_form h.orow
 obtain ⟨ao', c', e'⟩ := owns_form h.wrow
 exact ⟨ao, c, ao', c', e, e'⟩
theorem same_q {w : World} {s t : Value} {l : List UInt8} (hs : Reads w s l) (ht : Reads w t l) (hlen : l.length ≤ 140737488355328) :
   Calls Tryz.prog 34 #[s, t] w fun e w' => e = .returned (.bool true) ∧ ∃ q, w' = w.drewN q :=
 (same_any hs ht hlen hlen).mono fun e w' ⟨h1, h2⟩ => ⟨by rw [h1, show alike l l = true from decide_eq_true rfl], h2⟩
theorem holdsB_any {w : World} {S : Nat} {ov wv : Value} {es : List EnB} (h : ShBox w S ov wv es) (hr : ∀ e ∈ es, Reads w e.a e.la ∧ Reads w e.m e.lm ∧ e.la = e.lm ∧ e.la.length ≤ 140737488355328) (hlen : es.length ≤ 140737488355328) :
   Calls Tryz.prog 76 #[.pointer (some ⟨S, 0, none⟩)] w fun e w' => e = .returned (.bool true) ∧ ∃ q, w' = w.drewN q := by
 obtain ⟨ao, c, ao', c', eo, ew⟩ := h.forms
 have HB := hid h
 have HR := hid hr
 have c0 : w.cell? ⟨S, 0, none⟩ = some (.slice ao es.length c) := by rw [cell_at h.box, ← eo]; rfl
 have c1 : w.cell? ⟨S, 1, none⟩ = some (.slice ao' es.length c') := by rw [cell_at h.box, ← ew]; rfl
 clear h hr
 go_enter Tryz.func76, Tryz.ntmps76
 go_wp2
 go_loopw [3] (fun iv wr => ∃ (k q : Nat), k ≤ es.length ∧ iv = .int .i64 (k : Int) ∧ wr = w.drewN q) (fun iv _ => es.length - (intOf iv).toNat)
 case atStart => exact ⟨0, 0, by omega, rfl, rfl⟩
 case round =>
   obtain ⟨k, q, hk, rfl, rfl⟩ := hrel
   by_cases hlt : k < es.length
   · obtain ⟨e, he⟩ : ∃ e, es[k]? = some e := ⟨_, List.getElem?_eq_getElem hlt⟩
     obtain ⟨g, cc, g', cc', e1, e2, h1, h2⟩ := HB.out.at k e he
     rw [eo] at e1
     rw [ew] at e2
     simp only [Value.slice.injEq, true_and] at e1 e2
     obtain ⟨rfl, rfl⟩ := e1
     obtain ⟨rfl, rfl⟩ := e2
     have hre := HR.out e (List.mem_of_getElem? he)
     obtain ⟨ra, rm, rl, rb⟩ := hre
     rw [← rl] at rm
     obtain ⟨xa, ca, ha⟩ := ra.form
     obtain ⟨xm, cm, hm⟩ := rm.form
     rw [ha] at h1 ra
     rw [hm] at h2 rm
     have RA := hid ra
     have RM := hid rm
     have EO := hid eo
     have EW := hid ew
     clear ra rm he rl ha hm eo ew
     go_wp2
     go_region_with (go_at_call 34; refine (same_q (RA.out.drewN _) (RM.out.drewN _) rb).mono ?_; rintro e w1 ⟨rfl, q1, rfl⟩)
     all_goals go_wp2
     all_goals go_roundw
     all_goals first | exact ⟨k + 1, _, by omega, by go_num, rfl⟩ | (simp [intOf]; omega)
   · go_wp2
     go_ret
     exact ⟨rfl, q, rfl⟩
end Go.Proofs.YtfeppannfcbakaaGreatDoor

namespace Go.Proofs.YtfeppannfcbakaaGreatDoor
open Go.RowKit
set_option linter.unusedVariables false
set_option maxRecDepth 1000000
set_option maxHeartbeats 3200000
attribute [local go_sem ↓] Go.wp_at_zero Go.wp_at_succ
def boxC (S : Nat) (ov wv : Value) : Comp := ⟨fun w => w.heap[S]? = some (.cells #[ov, wv] 77 (0, 0)), [S]⟩
def slC (v : Value) (vs : List Value) : Comp := ⟨fun w => w.ownsRow 0 32 1 v vs.length vs, v.ownBlock.toList⟩
theorem boxC_good (S : Nat) (ov wv : Value) : (boxC S ov wv).Good := by
 intro w w' h hs hb
 show w'.heap[S]? = _
 rw [hb S (by simp [boxC])]; exact h
theorem slC_good (v : Value) (vs : List Value) : (slC v vs).Good := by
 intro w w' h hs hb
 exact ⟨h.1, by
   rcases h.2 with hn | ⟨g, cap, cur, rfl, hg, hgg, rest⟩
   · exact Or.inl hn
   · exact Or.inr ⟨g, cap, cur, rfl, hg, by rw [hb g (by simp [slC, Value.ownBlock])]; exact hgg, rest⟩⟩
theorem All.sl_append {v v' x : Value} {vs : List Value} {cs : List Comp} {w w1 : World} {base : Nat} (h : All (slC v vs :: cs) w) (hown : w1.ownsRow base 32 1 v' (vs.length + 1) (vs ++ [x])) (hg : w.grownBy w1 v.ownBlock) (hat : v'.ownBlock = v.ownBlock ∨ v'.ownBlock = some w.heap.size) : All (slC v' (vs ++ [x]) :: cs) w1 := by
 have ho : w1.ownsRow 0 32 1 v' (vs ++ [x]).length (vs ++ [x]) := by rw [List.length_append]; exact owns_zero hown
 refine h.turn (grown_fr hg) (slC_good _ _) ho (fun k hk => ?_) (fun k hk => ?_)
 · have hk' : v'.ownBlock = some k := by simpa [slC] using hk
   rcases hat with e | e
   · exact Or.inl (by simp [slC, ← e, hk'])
   · rw [e] at hk'; simp at hk'; exact Or.inr (by omega)
 · have hk' : v'.ownBlock = some k := by simpa [slC] using hk
   exact (World.ownsRow.lt ho k hk').2
theorem All.box_set0 {S : Nat} {ov wv u : Value} {cs : List Comp} {w : World} (h : All (boxC S ov wv :: cs) w) : All (boxC S u wv :: cs) (w.setCell ⟨S, 0, none⟩ u) := by
 refine h.turn (Fr.setCell w S 0 u) (boxC_good _ _ _) ?_ (Gr.refl _ _) (fun k hk => ?_)
 · show (w.setCell ⟨S, 0, none⟩ u).heap[S]? = _
   rw [heap_setCell_same h.1.2.1]; rfl
 · have := h.1.2.2 k hk
   simpa [World.setCell] using this
theorem All.box_set1 {S : Nat} {ov wv u : Value} {cs : List Comp} {w : World} (h : All (boxC S ov wv :: cs) w) : All (boxC S ov u :: cs) (w.setCell ⟨S, 1, none⟩ u) := by
 refine h.turn (Fr.setCell w S 1 u) (boxC_good _ _ _) ?_ (Gr.refl _ _) (fun k hk => ?_)
 · show (w.setCell ⟨S, 1, none⟩ u).heap[S]? = _
   rw [heap_setCell_same h.1.2.1]; rfl
 · have := h.1.2.2 k hk
   simpa [World.setCell] using this
theorem owns_one {w : World} {base : Nat} {e : TypeId} {size : Nat} {v : Value} {n : Nat} {xs : List Value} (h : w.ownsRow base e size v n xs) : v.oneCell' = true := by
 rcases h.2 with ⟨rfl, _⟩ | ⟨g, cap, cur, rfl, _⟩ <;> rfl
section
variable {S : Nat} {ov wv lv mv : Value} {us ms : List Value} {xs : List UInt8} {cs : List Comp} {w3 w4 : World}
theorem keep_row (h : All (byR mv xs :: boxC S ov wv :: slC ov us :: slC wv ms :: byR lv xs :: cs) w3) (o : Obj) : (w3.alloc o).ownsRow 0 32 1 wv ms.length ms :=
 World.ownsRow.alloc (h.2.2.2.2.2.2.1.2.1 : w3.ownsRow 0 32 1 wv ms.length ms) o
theorem keep_cell0 (h : All (byR mv xs :: boxC S ov wv :: slC ov us :: slC wv ms :: byR lv xs :: cs) w3) : w3.cell? ⟨S, 1, none⟩ = some wv := by
 rw [cell_at (h.2.2.1.2.1 : w3.heap[S]? = some (.cells #[ov, wv] 77 (0, 0)))]; rfl
theorem keep_free0 (h : All (byR mv xs :: boxC S ov wv :: slC ov us :: slC wv ms :: byR lv xs :: cs) w3) : w3.frozen? ⟨S, 1, none⟩ = false := free_at (h.2.2.1.2.1 : w3.heap[S]? = some (.cells #[ov, wv] 77 (0, 0))) 1
theorem keep_lt (h : All (byR mv xs :: boxC S ov wv :: slC ov us :: slC wv ms :: byR lv xs :: cs) w3) : S < w3.heap.size := h.2.2.1.2.2 S (by simp [boxC])
theorem keep_after {g cap : Nat} (h : All (byR mv xs :: boxC S ov wv :: slC ov us :: slC wv ms :: byR lv xs :: cs) w3) (hown : w4.ownsRow 0 32 1 (.slice (some ⟨g, 0, none⟩) (ms.length + 1) cap) (ms.length + 1) (ms ++ [mv])) (hg : (w3.alloc (.cells #[mv] 32)).grownBy w4 wv.ownBlock) (hat : wv.ownBlock = some g ∨ g = w3.heap.size + 1) :
   All (boxC S ov wv :: slC ov us :: slC (.slice (some ⟨g, 0, none⟩) (ms.length + 1) cap) (ms ++ [mv]) :: byR lv xs :: byR mv xs :: cs) w4 := by
 have h1 := h.alloc (.cells #[mv] 32)
 have p : (byR mv xs :: boxC S ov wv :: slC ov us :: slC wv ms :: byR lv xs :: cs).Perm (slC wv ms :: boxC S ov wv :: slC ov us :: byR lv xs :: byR mv xs :: cs) := by
   refine List.Perm.trans (l₂ := byR mv xs :: slC wv ms :: boxC S ov wv :: slC ov us :: byR lv xs :: cs) ?_ ?_
   · refine List.Perm.cons _ ?_
     exact (List.perm_middle (a := slC wv ms) (l₁ := [boxC S ov wv, slC ov us]) (l₂ := byR lv xs :: cs))
   · exact (List.perm_middle (a := byR mv xs) (l₁ := [slC wv ms, boxC S ov wv, slC ov us, byR lv xs]) (l₂ := cs)).symm
 have h2 := (h1.perm p).sl_append hown hg (by
   rcases hat with e | e
   · exact Or.inl e.symm
   · right; simp [Value.ownBlock, e])
 refine h2.perm ?_
 exact (List.perm_middle (a := slC (.slice (some ⟨g, 0, none⟩) (ms.length + 1) cap) (ms ++ [mv])) (l₁ := [boxC S ov wv, slC ov us]) (l₂ := byR lv xs :: byR mv xs :: cs)).symm
theorem keep_cell {cs : List Comp} (h : All (boxC S ov wv :: cs) w4) : w4.cell? ⟨S, 1, none⟩ = some wv := by
 rw [cell_at (h.1.2.1 : w4.heap[S]? = some (.cells #[ov, wv] 77 (0, 0)))]; rfl
theorem keep_free {cs : List Comp} (h : All (boxC S ov wv :: cs) w4) : w4.frozen? ⟨S, 1, none⟩ = false := free_at (h.1.2.1 : w4.heap[S]? = some (.cells #[ov, wv] 77 (0, 0))) 1
end
theorem keep_any {w : World} {S : Nat} {ov wv : Value} {us ms : List Value} {lv : Value} {xs : List UInt8} {cs : List Comp} (h : All (boxC S ov wv :: slC ov us :: slC wv ms :: byR lv xs :: cs) w) (hlen : xs.length ≤ 140737488351300) (ha : us.length ≤ 1099511627776) (hm : ms.length ≤ 1099511627776) :
   Calls Tryz.prog 38 #[.pointer (some ⟨S, 0, none⟩), lv] w fun e w' => e = .returned (.tuple #[]) ∧ ∃ ov' wv' m, All (boxC S ov' wv' :: slC ov' (us ++ [lv]) :: slC wv' (ms ++ [m]) :: byR lv xs :: byR m xs :: cs) w' := by
 obtain ⟨i0, hi, hz0, hz1, hz2⟩ := info_parts Tryz.info32
 have hbox : w.heap[S]? = some (.cells #[ov, wv] 77 (0, 0)) := h.1.2.1
 have horow : w.ownsRow 0 32 1 ov us.length us := h.2.2.1.2.1
 have hwrow : w.ownsRow 0 32 1 wv ms.length ms := h.2.2.2.2.1.2.1
 have hlrow : w.ownsRow 0 5 1 lv xs.length (cellsB xs) := h.2.2.2.2.2.2.1.2.1
 obtain ⟨ao, c, eo⟩ := owns_form horow
 obtain ⟨aw, cw, ew⟩ := owns_form hwrow
 obtain ⟨al, cl, el⟩ := owns_form hlrow
 subst eo ew el
 have HA := hid h
 have c0 : w.cell? ⟨S, 0, none⟩ = some (.slice ao us.length c) := by rw [cell_at hbox]; rfl
 have c1 : w.cell? ⟨S, 1, none⟩ = some (.slice aw ms.length cw) := by rw [cell_at hbox]; rfl
 clear h hbox hwrow hlrow
 go_enter Tryz.func38, Tryz.ntmps38
 go_wp2_with (at_builtin; refine wpList_append_own_at _ rfl (.tmp 8) (.tmp 10) 75 rfl 0 32 i0 (.slice none 0 0) 1 24 Tryz.underlying75 hi hz0 hz1 hz2 rfl (by decide) _ _ _ rfl (horow.alloc _) ⟨w.heap.size, 0, none⟩ 1 1 [.slice al xs.length cl] rfl rfl (cell_one_new _ _ _) (fun u hu => by simp at hu; subst hu; rfl) (by unfold maxLen; omega) (by omega) (by omega) ?_)
 intro ov' w1 hown hgr hnil hat
 have A1 := hid (((HA.out.alloc (.cells #[.slice al xs.length cl] 32)).swap).sl_append hown hgr (by simpa using hat)).swap
 obtain ⟨ao', c', eo⟩ := owns_form hown
 subst eo
 clear hown hgr hnil hat horow
 have hb1 := A1.out.1.2.1
 have d0 : w1.cell? ⟨S, 0, none⟩ = some (.slice ao us.length c) := by rw [cell_at hb1]; rfl
 have d1 : w1.cell? ⟨S, 1, none⟩ = some (.slice aw ms.length cw) := by rw [cell_at hb1]; rfl
 have f0 : w1.frozen? ⟨S, 0, none⟩ = false := free_at hb1 0
 have A2 := hid (A1.out.box_set0 (u := .slice ao' (us.length + 1) c'))
 clear hb1 c0 c1
 go_wp2
 generalize w1.setCell ⟨S, 0, none⟩ (.slice ao' (us.length + 1) c') = w2 at *
 have hb2 := A2.out.1.2.1
 have e1 : w2.cell? ⟨S, 1, none⟩ = some (.slice aw ms.length cw) := by rw [cell_at hb2]; rfl
 have f1 : w2.frozen? ⟨S, 1, none⟩ = false := free_at hb2 1
 have AD := hid A2.out.drew
 have RL := hid (Reads.of_owns (AD.out.2.2.2.2.2.2.1.2.1 : (w2.drew).ownsRow 0 5 1 (.slice al xs.length cl) xs.length (cellsB xs)))
 clear d0 d1 f0 hb2 A1 HA
 go_region_law (first | (refine step_append_lies _ (by rfl) (.tmp 18) (.tmp 21) 75 (by rfl) 0 32 i0 (.slice none 0 0) 1 24 Tryz.underlying75 hi hz0 hz1 hz2 rfl (by decide) (.slice aw ms.length cw) ms.length ms (by rfl) hwr ⟨w3.heap.size, 0, none⟩ 1 1 [.slice vx xs.length vy] (by rfl) rfl (cell_one_new _ _ _) (fun u hu => by simp at hu; subst hu; rfl) (by omega) (by unfold maxLen; omega) (by omega) (by omega) (w3.heap.size + 1) (by simp) ?_; intro g cap w4 hown hgr hat hlt4; have A5 := hid (keep_after A3.out hown hgr hat); have q1 : w4.cell? ⟨S, 1, none⟩ = some (.slice aw ms.length cw) := keep_cell A5.out; have q2 : w4.frozen? ⟨S, 1, none⟩ = false := keep_free A5.out) | (go_simp; go_at_call 44; refine (lcopied_any RL.out hlen).mono ?_; rintro e w3 ⟨v3, rfl, hm1, hm2⟩; obtain ⟨vx, vy, hv3⟩ := owns_form hm1; subst hv3; have A3 := hid (AD.out.addByR hm2 hm1); have hwr := keep_row A3.out (.cells #[.slice vx xs.length vy] 32); have e2 : w3.cell? ⟨S, 1, none⟩ = some (.slice aw ms.length cw) := keep_cell0 A3.out; have f2 : w3.frozen? ⟨S, 1, none⟩ = false := keep_free0 A3.out; have hlt3 : S < w3.heap.size := keep_lt A3.out; clear hm1 hm2))
 all_goals go_wp2
 all_goals go_end0
 all_goals exact ⟨rfl, _, _, _, A5.out.box_set1⟩
end Go.Proofs.YtfeppannfcbakaaGreatDoor

namespace Go.Proofs.YtfeppannfcbakaaGreatDoor
open Go.RowKit
set_option linter.unusedVariables false
theorem wpList_append_two {P : Program} (w : World) {ops : Array Oper} {rest : List Oper} {o : Oper} {a : Act} {Q : Exit → Act → World → Prop} (hgd : o.guard = none) (s x : Operand) (t : TypeId)
   (ho : o.op = .call { callee := .builtin .append, args := #[s, x], argTypes := #[t, t] })
   (e : TypeId) (i : TypeInfo) (z : Value) (size bytes : Nat) (ht : P.underlying t = some (.slice e)) (hi : P.info? e = some i) (hz : i.zero = some z)
   (hsize : i.size = size) (hby : i.bytes = bytes) (hzs : z.cells.size = size) (hsz : 0 < size)
   (v : Value) (n : Nat) (xs : List Value) (hs : a.eval s = v) (hown : w.ownsRow 0 e size v n xs)
   (ad : Addr) (m c : Nat) (news : List Value) (hx : a.eval x = .slice (some ad) m c) (hl : news.length = m * size) (hnews : ∀ j u, news[j]? = some u → w.cell? (ad.add j) = some u) (h1 : ∀ u ∈ news, u.oneCell' = true)
   (hm : 0 < m) (h63 : n + m ≤ maxLen) (hbytes : (n + m) * bytes ≤ 140737488355328)
   (h : ∀ g cap w', w'.ownsRow 0 e size (.slice (some ⟨g, 0, none⟩) (n + m) cap) (n + m) (xs ++ news) → w.grownBy w' v.ownBlock → (v.ownBlock = some g ∨ (g = w.heap.size ∧ Below w.heap.size w w')) → wpList P ops Q rest (a.put o.dst (.slice (some ⟨g, 0, none⟩) (n + m) cap)) w') : wpList P ops Q (o :: rest) a w := by
 refine wpList_plain hgd fun K hK => ?_
 obtain ⟨v', w', hr, h2, h3, h4, h5⟩ := run_append_own_at (P := P) w 0 t o.type e i z size bytes ht hi hz hsize hby hzs hsz v n xs hown ad m c news hl hnews h1 h63 hbytes (by omega)
 subst hsize
 subst hby
 have hkey : ∃ g cap, v' = .slice (some ⟨g, 0, none⟩) (n + m) cap ∧ (v.ownBlock = some g ∨ (g = w.heap.size ∧ Below w.heap.size w w')) := by
   rcases h2.2 with ⟨_, e0⟩ | ⟨g, cap, cur, e1, _⟩
   · omega
   · refine ⟨g, cap, e1, ?_⟩
     rcases hown.2 with ⟨rfl, rfl⟩ | ⟨g0, cap0, cur0, rfl, _, hg0, hn0, _, hcs0, htake0⟩
     · right
       have hr2 := run_append_nil (P := P) w t o.type e i z ht hi hz ad m c news hl hnews hm (by simp only [maxLen] at h63; omega) (by have hb := hbytes; simp only [Nat.zero_add] at hb; omega)
       rw [hr] at hr2
       simp only [Result.ok.injEq] at hr2
       obtain ⟨rfl, rfl⟩ := hr2
       simp only [Value.slice.injEq, Option.some.injEq, Addr.mk.injEq, and_true] at e1
       exact ⟨e1.1.symm, ((Below.refl _ _).drew).alloc (Nat.le_refl _) _⟩
     · by_cases hroom : n + m ≤ cap0
       · left
         rcases h5 with e5 | e5
         · rw [e1] at e5; exact e5.symm
         · exfalso
           obtain ⟨w2, hr2, _, _⟩ := run_append_fits (P := P) w 0 t o.type e i i.size ht hi rfl g0 n cap0 xs hown ad m c news hl hnews h1 hroom
           rw [hr] at hr2
           simp only [Result.ok.injEq] at hr2
           rw [hr2.1] at e5
           simp [Value.ownBlock] at e5
           have := (Array.getElem?_eq_some_iff.1 hg0).1
           omega
       · right
         have hr2 := run_append_grow (P := P) w t o.type e i z ht hi hz ⟨g0, 0, none⟩ n cap0 xs hown.1 (hown.cells (g := g0) rfl) ad m c news hl hnews (by omega) (by simp only [maxLen] at h63; omega) (growslice_fits (by omega) hbytes)
         rw [hr] at hr2
         simp only [Result.ok.injEq] at hr2
         obtain ⟨rfl, rfl⟩ := hr2
         simp only [Value.slice.injEq, Option.some.injEq, Addr.mk.injEq, and_true] at e1
         exact ⟨e1.1.symm, ((Below.refl _ _).drew).alloc (Nat.le_refl _) _⟩
 obtain ⟨g, cap, rfl, hk⟩ := hkey
 unfold Oper.wp execOp
 simp only [ho, resolve, invoke, builtin, Sem.run_bind, Sem.run_pure, Result.andThen_ok, List.map_toArray, List.map_cons, List.map_nil, hs, hx, hr]
 exact hK _ _ (h g cap w' h2 h3 hk)
def byRs (es : List EnB) : List Comp := es.flatMap fun e => [byR e.a e.la, byR e.m e.lm]
theorem byRs_split (pre post : List EnB) (e : EnB) (cs : List Comp) : (byRs (pre ++ e :: post) ++ cs).Perm (byR e.a e.la :: byR e.m e.lm :: (byRs (pre ++ post) ++ cs)) := by
 have h1 : byRs (pre ++ e :: post) ++ cs = byRs pre ++ (byR e.a e.la :: byR e.m e.lm :: (byRs post ++ cs)) := by simp [byRs]
 have h2 : byRs (pre ++ post) ++ cs = byRs pre ++ (byRs post ++ cs) := by simp [byRs]
 rw [h1, h2]
 exact List.perm_middle.trans ((List.perm_middle (a := byR e.m e.lm)).cons _)
theorem All.byR_set {g n cap k : Nat} {l : List UInt8} {cs : List Comp} {w : World} (h : All (byR (.slice (some ⟨g, 0, none⟩) n cap) l :: cs) w) (x : UInt8) (hn : n = l.length) : All (byR (.slice (some ⟨g, 0, none⟩) n cap) (l.set k x) :: cs) (w.setCell ⟨g, k, none⟩ (.int .u8 (x.toNat : Int))) := by
 subst hn
 have ho : w.ownsRow 0 5 1 (.slice (some ⟨g, 0, none⟩) l.length cap) l.length (cellsB l) := h.1.2.1
 have hs := (World.ownsRow.stored ho k (.int .u8 (x.toNat : Int))).1
 have e : (cellsB l).set k (.int .u8 (x.toNat : Int)) = cellsB (l.set k x) := by simp [cellsB, List.map_set]
 refine h.turn (Fr.setCell w g k _) (byR_good _ _) ?_ (Gr.refl _ _) (fun k' hk' => ?_)
 · show World.ownsRow _ 0 5 1 _ (l.set k x).length _
   rw [List.length_set, ← e]; exact hs
 · have := h.1.2.2 k' hk'
   simpa [World.setCell] using this
set_option linter.unusedVariables false
structure SpA (w : World) (S : Nat) (ov wv : Value) (us ms : List Value) (cs : List Comp) (es : List EnB) : Prop where
 all : All (boxC S ov wv :: slC ov us :: slC wv ms :: (byRs es ++ cs)) w
 ea : es.map EnB.a = us
 em : es.map EnB.m = ms
 ok : ∀ e ∈ es, e.la = e.lm ∧ e.la.length ≤ 1099511627776
theorem SpA.rowA {w : World} {S : Nat} {ov wv : Value} {us ms : List Value} {cs : List Comp} {es : List EnB} (h : SpA w S ov wv us ms cs es) {e : EnB} (he : e ∈ es) : w.ownsRow 0 5 1 e.a e.la.length (cellsB e.la) ∧ w.ownsRow 0 5 1 e.m e.lm.length (cellsB e.lm) := by
 have hm := h.all.2.2.2.2.2.2
 refine ⟨(hm.mem (c := byR e.a e.la) ?_).2.1, (hm.mem (c := byR e.m e.lm) ?_).2.1⟩
 · exact List.mem_append.2 (Or.inl (List.mem_flatMap.2 ⟨e, he, by simp⟩))
 · exact List.mem_append.2 (Or.inl (List.mem_flatMap.2 ⟨e, he, by simp⟩))
theorem SpA.box {w : World} {S : Nat} {ov wv : Value} {us ms : List Value} {cs : List Comp} {es : List EnB} (h : SpA w S ov wv us ms cs es) : ShBox w S ov wv es := by
 have h1 : w.ownsRow 0 32 1 ov us.length us := h.all.2.2.1.2.1
 have h2 : w.ownsRow 0 32 1 wv ms.length ms := h.all.2.2.2.2.1.2.1
 refine ⟨h.all.1.2.1, ?_, ?_⟩
 · rw [h.ea]; rw [← h.ea, List.length_map] at h1; rw [h.ea] at h1; exact h1
 · rw [h.em]; rw [← h.em, List.length_map] at h2; rw [h.em] at h2; exact h2
theorem SpA.lens {w : World} {S : Nat} {ov wv : Value} {us ms : List Value} {cs : List Comp} {es : List EnB} (h : SpA w S ov wv us ms cs es) : us.length = es.length ∧ ms.length = es.length := by
 rw [← h.ea, ← h.em]; simp
theorem SpA.round {w : World} {S : Nat} {ov wv : Value} {us ms : List Value} {cs : List Comp} {es : List EnB} (h : SpA w S ov wv us ms cs es) (i : Nat) (e : EnB) (hi : es[i]? = some e) (k : Nat) (hk : k < e.la.length) :
   ∃ g c g' c' go co gw cw, e.a = .slice (some ⟨g, 0, none⟩) e.la.length c ∧ e.m = .slice (some ⟨g', 0, none⟩) e.la.length c' ∧ ov = .slice (some ⟨go, 0, none⟩) es.length co ∧ wv = .slice (some ⟨gw, 0, none⟩) es.length cw ∧
     w.cell? ⟨S, 0, none⟩ = some ov ∧ w.cell? ⟨S, 1, none⟩ = some wv ∧ w.cell? ⟨go, i, none⟩ = some e.a ∧ w.cell? ⟨gw, i, none⟩ = some e.m ∧ (∃ u, w.cell? ⟨g, k, none⟩ = some u) ∧ (∃ u, w.cell? ⟨g', k, none⟩ = some u) ∧ w.frozen? ⟨g, k, none⟩ = false ∧ w.frozen? ⟨g', k, none⟩ = false ∧
     g ≠ S ∧ g ≠ gw ∧ g ≠ g' ∧
     ∀ x : UInt8, ∃ es2 e2, SpA ((w.setCell ⟨g, k, none⟩ (.int .u8 (x.toNat : Int))).setCell ⟨g', k, none⟩ (.int .u8 (x.toNat : Int))) S ov wv us ms cs es2 ∧ es2[i]? = some e2 ∧ e2.a = e.a ∧ e2.m = e.m ∧ e2.la.length = e.la.length := by
 have hmem := List.mem_of_getElem? hi
 obtain ⟨go, co, gw, cw, eo, ew, hoc, hwc⟩ := h.box.at i e hi
 obtain ⟨ra, rm⟩ := h.rowA hmem
 have hlm := (h.ok e hmem).1
 obtain ⟨hlt, hget⟩ := List.getElem?_eq_some_iff.1 hi
 have hsplit : es = es.take i ++ e :: es.drop (i + 1) := by
   rw [← hget]
   simp
 have hall := h.all
 have p : (boxC S ov wv :: slC ov us :: slC wv ms :: (byRs es ++ cs)).Perm (byR e.a e.la :: byR e.m e.lm :: boxC S ov wv :: slC ov us :: slC wv ms :: (byRs (es.take i ++ es.drop (i + 1)) ++ cs)) := by
   have p1 : (byRs es ++ cs).Perm (byR e.a e.la :: byR e.m e.lm :: (byRs (es.take i ++ es.drop (i + 1)) ++ cs)) := by
     have := byRs_split (es.take i) (es.drop (i + 1)) e cs
     rwa [← hsplit] at this
   have p2 := ((p1.cons (slC wv ms)).cons (slC ov us)).cons (boxC S ov wv)
   refine p2.trans ?_
   refine (List.perm_middle (a := byR e.a e.la) (l₁ := [boxC S ov wv, slC ov us, slC wv ms])).trans (List.Perm.cons _ ?_)
   exact List.perm_middle (a := byR e.m e.lm) (l₁ := [boxC S ov wv, slC ov us, slC wv ms])
 have A := hall.perm p
 have qa := fun g => World.ownsRow.cells ra (g := g)
 have qm := fun g => World.ownsRow.cells rm (g := g)
 rcases ra.2 with ⟨_, e0⟩ | ⟨g, c, _, ea, _⟩
 · omega
 rcases rm.2 with ⟨_, e0⟩ | ⟨g', c', _, em, _⟩
 · rw [← hlm] at e0; omega
 have hk' : k < e.lm.length := by rw [← hlm]; exact hk
 have d1 : g ≠ g' := fun x => A.2.1 (byR e.m e.lm) (by simp) g (by simp [byR, ea, Value.ownBlock]) (by simp [byR, em, Value.ownBlock, x])
 have d2 : g ≠ S := fun x => A.2.1 (boxC S ov wv) (by simp) g (by simp [byR, ea, Value.ownBlock]) (by simp [boxC, x])
 have d3 : g ≠ gw := fun x => A.2.1 (slC wv ms) (by simp) g (by simp [byR, ea, Value.ownBlock]) (by simp [slC, ew, Value.ownBlock, x])
 refine ⟨g, c, g', c', go, co, gw, cw, ea, by rw [hlm]; exact em, eo, ew, by rw [cell_at h.box.box]; rfl, by rw [cell_at h.box.box]; rfl, hoc, hwc, ?_, ?_, ?_, ?_, d2, d3, d1, ?_⟩
 · have := qa g (by rw [ea]; rfl) k (.int .u8 ((e.la[k]).toNat : Int)) (by simp [cellsB, hk])
   exact ⟨_, by simpa [Addr.add_lit] using this⟩
 · have := qm g' (by rw [em]; rfl) k (.int .u8 ((e.lm[k]).toNat : Int)) (by simp [cellsB, hk'])
   exact ⟨_, by simpa [Addr.add_lit] using this⟩
 · rw [ea] at ra; exact World.ownsRow.frozenAt ra k
 · rw [em] at rm; exact World.ownsRow.frozenAt rm k
 · intro x
   have A' := A
   rw [ea, em] at A'
   have A1 := (A'.byR_set (k := k) x rfl).swap
   have A2 := (A1.byR_set (k := k) x rfl).swap
   rw [← ea, ← em] at A2
   have hti : (es.take i).length = i := by simp; omega
   refine ⟨es.take i ++ ⟨e.a, e.m, e.la.set k x, e.lm.set k x⟩ :: es.drop (i + 1), ⟨e.a, e.m, e.la.set k x, e.lm.set k x⟩, ⟨?_, ?_, ?_, ?_⟩, by rw [List.getElem?_append_right (by omega), hti]; simp, rfl, rfl, by simp⟩
   · refine All.perm ?_ A2
     refine List.Perm.symm ?_
     have p1 := byRs_split (es.take i) (es.drop (i + 1)) ⟨e.a, e.m, e.la.set k x, e.lm.set k x⟩ cs
     have p2 := ((p1.cons (slC wv ms)).cons (slC ov us)).cons (boxC S ov wv)
     refine p2.trans ?_
     refine (List.perm_middle (a := byR e.a (e.la.set k x)) (l₁ := [boxC S ov wv, slC ov us, slC wv ms])).trans (List.Perm.cons _ ?_)
     exact List.perm_middle (a := byR e.m (e.lm.set k x)) (l₁ := [boxC S ov wv, slC ov us, slC wv ms])
   · have := h.ea
     rw [hsplit] at this
     simpa using this
   · have := h.em
     rw [hsplit] at this
     simpa using this
   · intro e' he'
     rcases List.mem_append.1 he' with h1 | h1
     · exact h.ok e' (List.mem_of_mem_take h1)
     · rcases List.mem_cons.1 h1 with rfl | h1
       · exact ⟨by simp [hlm], by simpa using (h.ok e hmem).2⟩
       · exact h.ok e' (List.mem_of_mem_drop h1)
set_option linter.unusedVariables false
def rdcB (rd : List EnB) : Comp := ⟨fun w => ∀ e ∈ rd, Reads w e.a e.la ∧ Reads w e.m e.lm, rd.flatMap fun e => e.a.ownBlock.toList ++ e.m.ownBlock.toList⟩
theorem rdcB_good (rd : List EnB) : (rdcB rd).Good := by
 intro w w' h hs hb e he
 have hin : ∀ k, (e.a.ownBlock = some k ∨ e.m.ownBlock = some k) → k ∈ (rdcB rd).fp := fun k hk => List.mem_flatMap.2 ⟨e, he, by rcases hk with hk | hk <;> simp [hk]⟩
 exact ⟨(h e he).1.kept hs.size (fun k _ hk => hb k (hin k (Or.inl hk))), (h e he).2.kept hs.size (fun k _ hk => hb k (hin k (Or.inr hk)))⟩
def extC (a : Value) (la : List UInt8) (lv : Value) (ll : List UInt8) : Comp := ⟨fun w => Reads w a la ∧ w.ownsRow 0 5 1 lv ll.length (cellsB ll) ∧ (∀ ga o sp n c, a = .slice (some ⟨ga, o, sp⟩) n c → o = 0) ∧ ∃ t, ll = la ++ t, a.ownBlock.toList ++ lv.ownBlock.toList⟩
theorem extC_good (a : Value) (la : List UInt8) (lv : Value) (ll : List UInt8) : (extC a la lv ll).Good := by
 intro w w' h hs hb
 refine ⟨h.1.kept hs.size (fun k _ hk => hb k (by simp [extC, hk])), byR_good lv ll w w' h.2.1 hs (fun k hk => hb k (List.mem_append.2 (Or.inr hk))), h.2.2⟩
theorem All.weaken {c c' : Comp} {cs : List Comp} {w : World} (h : All (c :: cs) w) (hg : c'.Good) (hh : c.holds w → c'.holds w) (hf : ∀ k ∈ c'.fp, k ∈ c.fp) : All (c' :: cs) w :=
 ⟨⟨hg, hh h.1.2.1, fun k hk => h.1.2.2 k (hf k hk)⟩, fun d hd k hk => h.2.1 d hd k (hf k hk), h.2.2⟩
theorem All.mergeB {c d : Comp} {cs : List Comp} {w : World} (h : All (c :: d :: cs) w) : All (⟨fun w => c.holds w ∧ d.holds w, c.fp ++ d.fp⟩ :: cs) w := by
 obtain ⟨⟨g1, h1, l1⟩, d1, ⟨g2, h2, l2⟩, d2, hr⟩ := h
 refine ⟨⟨?_, ⟨h1, h2⟩, ?_⟩, ?_, hr⟩
 · intro w w' hh hs hb
   exact ⟨g1 w w' hh.1 hs (fun k hk => hb k (List.mem_append.2 (Or.inl hk))), g2 w w' hh.2 hs (fun k hk => hb k (List.mem_append.2 (Or.inr hk)))⟩
 · intro k hk
   rcases List.mem_append.1 hk with hk | hk
   · exact l1 k hk
   · exact l2 k hk
 · intro x hx k hk
   rcases List.mem_append.1 hk with hk | hk
   · exact d1 x (by simp [hx]) k hk
   · exact d2 x hx k hk
theorem owns_off {w : World} {base : Nat} {e : TypeId} {size : Nat} {v : Value} {n : Nat} {xs : List Value} (h : w.ownsRow base e size v n xs) : ∀ ga o sp n' c, v = .slice (some ⟨ga, o, sp⟩) n' c → o = 0 := by
 intro ga o sp n' c hv
 rcases h.2 with ⟨rfl, _⟩ | ⟨g, cap, cur, rfl, _⟩
 · simp at hv
 · simp only [Value.slice.injEq, Option.some.injEq, Addr.mk.injEq] at hv
   exact hv.1.2.1.symm
theorem All.ext_begin {a : Value} {la : List UInt8} {cs : List Comp} {w : World} (h : All (byR a la :: cs) w) : All (extC a la a la :: cs) w :=
 h.weaken (extC_good _ _ _ _) (fun hh => ⟨Reads.of_owns hh, hh, owns_off hh, [], by simp⟩) (fun k hk => by
   rcases List.mem_append.1 hk with hk | hk <;> exact hk)
theorem All.ext_append {a lv : Value} {la ll : List UInt8} {x : UInt8} {cs : List Comp} {w w1 : World} {g cap : Nat} (h : All (extC a la lv ll :: cs) w) (hown : w1.ownsRow 0 5 1 (.slice (some ⟨g, 0, none⟩) (ll.length + 1) cap) (ll.length + 1) (cellsB ll ++ cellsB [x])) (hg : w.grownBy w1 lv.ownBlock) (hat : lv.ownBlock = some g ∨ (g = w.heap.size ∧ Below w.heap.size w w1)) :
   All (extC a la (.slice (some ⟨g, 0, none⟩) (ll.length + 1) cap) (ll ++ [x]) :: cs) w1 := by
 obtain ⟨hra, hro, hoff, t, ht⟩ := h.1.2.1
 have hown' : w1.ownsRow 0 5 1 (.slice (some ⟨g, 0, none⟩) (ll.length + 1) cap) (ll ++ [x]).length (cellsB (ll ++ [x])) := by
   rw [cellsB_append, List.length_append]; exact hown
 have hf : Fr (extC a la lv ll).fp w w1 := (grown_fr hg).mono (fun k hk => List.mem_append.2 (Or.inr hk))
 have hra1 : Reads w1 a la := by
   rcases hat with e | ⟨e, hb⟩
   · by_cases hab : a.ownBlock = some g
     · -- the block is the same: its beginning is as it was
       obtain ⟨ao, c, rfl, hc, hcase⟩ := hra
       rcases hcase with ⟨rfl, h0⟩ | ⟨ga, o, rfl, hga, hcell⟩
       · exact ⟨ao, c, rfl, hc, Or.inl ⟨rfl, h0⟩⟩
       · have hgg : ga = g := by simpa [Value.ownBlock] using hab
         subst hgg
         refine ⟨_, c, rfl, hc, Or.inr ⟨ga, o, rfl, Nat.lt_of_lt_of_le hga hg.size, fun j u hu => ?_⟩⟩
         have hj : j < la.length := by
           have := (List.getElem?_eq_some_iff.1 hu).1
           rwa [cellsB_length] at this
         have ho := hoff ga o none la.length c rfl
         subst ho
         have q := World.ownsRow.cells hown' (g := ga) rfl j u (by
           rw [ht, List.append_assoc, cellsB_append, List.getElem?_append_left (by rw [cellsB_length]; exact hj)]
           exact hu)
         simpa [Addr.add_lit] using q
     · refine hra.kept hg.size (fun k hk0 hk => hg.block k hk0 (fun x => hab ?_))
       rw [e] at x
       rw [hk, x]
   · exact hra.below hb
 refine h.turn hf (extC_good _ _ _ _) ⟨hra1, hown', hoff, t ++ [x], by rw [ht, List.append_assoc]⟩ (fun k hk => ?_) (fun k hk => ?_)
 · rcases List.mem_append.1 hk with hk | hk
   · exact Or.inl (List.mem_append.2 (Or.inl hk))
   · have hkg : k = g := by simpa [Value.ownBlock, eq_comm] using hk
     rcases hat with e | ⟨e, _⟩
     · exact Or.inl (List.mem_append.2 (Or.inr (by rw [e, hkg]; simp)))
     · exact Or.inr (by omega)
 · rcases List.mem_append.1 hk with hk | hk
   · exact Nat.lt_of_lt_of_le (h.1.2.2 k (List.mem_append.2 (Or.inl hk))) hg.size
   · have hkg : k = g := by simpa [Value.ownBlock, eq_comm] using hk
     rw [hkg]
     exact (World.ownsRow.lt hown' g rfl).2
theorem All.byR_append {lv : Value} {ll : List UInt8} {x : UInt8} {cs : List Comp} {w w1 : World} {g cap : Nat} (h : All (byR lv ll :: cs) w) (hown : w1.ownsRow 0 5 1 (.slice (some ⟨g, 0, none⟩) (ll.length + 1) cap) (ll.length + 1) (cellsB ll ++ cellsB [x])) (hg : w.grownBy w1 lv.ownBlock) (hat : lv.ownBlock = some g ∨ (g = w.heap.size ∧ Below w.heap.size w w1)) :
   All (byR (.slice (some ⟨g, 0, none⟩) (ll.length + 1) cap) (ll ++ [x]) :: cs) w1 := by
 have hown' : w1.ownsRow 0 5 1 (.slice (some ⟨g, 0, none⟩) (ll.length + 1) cap) (ll ++ [x]).length (cellsB (ll ++ [x])) := by
   rw [cellsB_append, List.length_append]; exact hown
 refine h.turn (grown_fr hg) (byR_good _ _) hown' (fun k hk => ?_) (fun k hk => ?_)
 · have hkg : k = g := by simpa [byR, Value.ownBlock, eq_comm] using hk
   rcases hat with e | ⟨e, _⟩
   · exact Or.inl (by simp [byR, e, hkg])
   · exact Or.inr (by omega)
 · have hkg : k = g := by simpa [byR, Value.ownBlock, eq_comm] using hk
   rw [hkg]
   exact (World.ownsRow.lt hown' g rfl).2
structure SpB (w : World) (S : Nat) (ov wv : Value) (cs : List Comp) (done post news : List EnB) : Prop where
 all : All (boxC S ov wv :: slC ov ((done ++ post ++ news).map EnB.a) :: slC wv ((done ++ post ++ news).map EnB.m) :: rdcB (done ++ news) :: (byRs post ++ cs)) w
 ok : ∀ e ∈ done ++ post ++ news, e.la = e.lm ∧ e.la.length ≤ 2199023255552
 okp : ∀ e ∈ post, e.la.length ≤ 1099511627776
theorem SpB.box {w : World} {S : Nat} {ov wv : Value} {cs : List Comp} {done post news : List EnB} (h : SpB w S ov wv cs done post news) : ShBox w S ov wv (done ++ post ++ news) := by
 have h1 : w.ownsRow 0 32 1 ov ((done ++ post ++ news).map EnB.a).length ((done ++ post ++ news).map EnB.a) := h.all.2.2.1.2.1
 have h2 : w.ownsRow 0 32 1 wv ((done ++ post ++ news).map EnB.m).length ((done ++ post ++ news).map EnB.m) := h.all.2.2.2.2.1.2.1
 rw [List.length_map] at h1 h2
 exact ⟨h.all.1.2.1, h1, h2⟩
theorem SpB.of {w : World} {S : Nat} {ov wv : Value} {us ms : List Value} {cs : List Comp} {es : List EnB} (h : SpA w S ov wv us ms cs es) : SpB w S ov wv cs [] es [] := by
 refine ⟨?_, ?_, fun e he => (h.ok e he).2⟩
 · have ha := h.all
   rw [← h.ea, ← h.em] at ha
   simp only [List.nil_append, List.append_nil]
   obtain ⟨a1, a2, a3, a4, a5, a6, a7⟩ := ha
   refine ⟨a1, ?_, a3, ?_, a5, ?_, ⟨rdcB_good [], by simp [rdcB], by simp [rdcB]⟩, by simp [rdcB, Disj], a7⟩
   · intro d hd k hk hkd
     rcases List.mem_cons.1 hd with rfl | hd
     · exact a2 _ (by simp) k hk hkd
     rcases List.mem_cons.1 hd with rfl | hd
     · exact a2 _ (by simp) k hk hkd
     rcases List.mem_cons.1 hd with rfl | hd
     · simp [rdcB] at hkd
     · exact a2 d (by simp [List.mem_append.1 hd]) k hk hkd
   · intro d hd k hk hkd
     rcases List.mem_cons.1 hd with rfl | hd
     · exact a4 _ (by simp) k hk hkd
     rcases List.mem_cons.1 hd with rfl | hd
     · simp [rdcB] at hkd
     · exact a4 d (by simp [List.mem_append.1 hd]) k hk hkd
   · intro d hd k hk hkd
     rcases List.mem_cons.1 hd with rfl | hd
     · simp [rdcB] at hkd
     · exact a6 d hd k hk hkd
 · intro e he
   have := h.ok e (by simpa using he)
   exact ⟨this.1, by omega⟩
end Go.Proofs.YtfeppannfcbakaaGreatDoor

namespace Go.Proofs.YtfeppannfcbakaaGreatDoor
open Go.RowKit
set_option linter.unusedVariables false
section
variable {w w1 : World} {S : Nat} {ov wv : Value} {cs : List Comp} {done post news : List EnB} {e : EnB}
def restB (S : Nat) (ov wv : Value) (cs : List Comp) (done post news : List EnB) (e : EnB) : List Comp :=
 boxC S ov wv :: slC ov ((done ++ (e :: post) ++ news).map EnB.a) :: slC wv ((done ++ (e :: post) ++ news).map EnB.m) :: rdcB (done ++ news) :: byR e.m e.lm :: (byRs post ++ cs)
theorem SpB.begin {mv : Value} (h : SpB w S ov wv cs done (e :: post) news) (hb : Below w.heap.size w w1) (ho : w1.ownsRow w.heap.size 5 1 mv e.lm.length (cellsB e.lm)) : All (extC e.a e.la e.a e.la :: byR mv e.lm :: restB S ov wv cs done post news e) w1 := by
 have A := h.all.addByR hb ho
 have p : (byR mv e.lm :: boxC S ov wv :: slC ov ((done ++ (e :: post) ++ news).map EnB.a) :: slC wv ((done ++ (e :: post) ++ news).map EnB.m) :: rdcB (done ++ news) :: (byRs (e :: post) ++ cs)).Perm (byR e.a e.la :: byR mv e.lm :: restB S ov wv cs done post news e) := by
   have h1 : byRs (e :: post) ++ cs = byR e.a e.la :: byR e.m e.lm :: (byRs post ++ cs) := by simp [byRs]
   rw [h1]
   exact List.perm_middle (a := byR e.a e.la) (l₁ := [byR mv e.lm, boxC S ov wv, slC ov ((done ++ (e :: post) ++ news).map EnB.a), slC wv ((done ++ (e :: post) ++ news).map EnB.m), rdcB (done ++ news)])
 exact (A.perm p).ext_begin
theorem restB_close {lv mv : Value} {ll lm : List UInt8} (h : All (extC e.a e.la lv ll :: byR mv lm :: restB S ov wv cs done post news e) w) :
   All (boxC S ov wv :: slC ov ((done ++ (e :: post) ++ news).map EnB.a) :: slC wv ((done ++ (e :: post) ++ news).map EnB.m) :: rdcB ((done ++ [e]) ++ (news ++ [⟨lv, mv, ll, lm⟩])) :: (byRs post ++ cs)) w := by
 have p : (extC e.a e.la lv ll :: byR mv lm :: restB S ov wv cs done post news e).Perm (extC e.a e.la lv ll :: byR mv lm :: byR e.m e.lm :: rdcB (done ++ news) :: boxC S ov wv :: slC ov ((done ++ (e :: post) ++ news).map EnB.a) :: slC wv ((done ++ (e :: post) ++ news).map EnB.m) :: (byRs post ++ cs)) := by
   refine List.Perm.cons _ (List.Perm.cons _ ?_)
   refine (List.perm_middle (a := byR e.m e.lm) (l₁ := [boxC S ov wv, slC ov ((done ++ (e :: post) ++ news).map EnB.a), slC wv ((done ++ (e :: post) ++ news).map EnB.m), rdcB (done ++ news)])).trans (List.Perm.cons _ ?_)
   exact List.perm_middle (a := rdcB (done ++ news)) (l₁ := [boxC S ov wv, slC ov ((done ++ (e :: post) ++ news).map EnB.a), slC wv ((done ++ (e :: post) ++ news).map EnB.m)])
 have M := ((h.perm p).mergeB).mergeB.mergeB
 have W := M.weaken (c' := rdcB ((done ++ [e]) ++ (news ++ [⟨lv, mv, ll, lm⟩]))) (rdcB_good _) (fun hh => by
   obtain ⟨⟨⟨h1, h2⟩, h3⟩, h4⟩ := hh
   intro x hx
   have hx' : x ∈ done ++ news ∨ x = e ∨ x = ⟨lv, mv, ll, lm⟩ := by
     simp only [List.mem_append, List.mem_singleton] at hx ⊢
     rcases hx with (hx | hx) | (hx | hx)
     · exact Or.inl (Or.inl hx)
     · exact Or.inr (Or.inl hx)
     · exact Or.inl (Or.inr hx)
     · exact Or.inr (Or.inr hx)
   rcases hx' with hx' | rfl | rfl
   · exact h4 x hx'
   · exact ⟨h1.1, Reads.of_owns h3⟩
   · exact ⟨Reads.of_owns h1.2.1, Reads.of_owns h2⟩) (fun k hk => by
   obtain ⟨x, hx, hkx⟩ := List.mem_flatMap.1 hk
   have hx' : x ∈ done ++ news ∨ x = e ∨ x = ⟨lv, mv, ll, lm⟩ := by
     simp only [List.mem_append, List.mem_singleton] at hx ⊢
     rcases hx with (hx | hx) | (hx | hx)
     · exact Or.inl (Or.inl hx)
     · exact Or.inr (Or.inl hx)
     · exact Or.inl (Or.inr hx)
     · exact Or.inr (Or.inr hx)
   show k ∈ (((extC e.a e.la lv ll).fp ++ (byR mv lm).fp) ++ (byR e.m e.lm).fp) ++ (rdcB (done ++ news)).fp
   rcases hx' with hx' | rfl | rfl
   · exact List.mem_append.2 (Or.inr (List.mem_flatMap.2 ⟨x, hx', hkx⟩))
   · rcases List.mem_append.1 hkx with hkx | hkx
     · exact List.mem_append.2 (Or.inl (List.mem_append.2 (Or.inl (List.mem_append.2 (Or.inl (List.mem_append.2 (Or.inl hkx)))))))
     · exact List.mem_append.2 (Or.inl (List.mem_append.2 (Or.inr hkx)))
   · rcases List.mem_append.1 hkx with hkx | hkx
     · exact List.mem_append.2 (Or.inl (List.mem_append.2 (Or.inl (List.mem_append.2 (Or.inl (List.mem_append.2 (Or.inr hkx)))))))
     · exact List.mem_append.2 (Or.inl (List.mem_append.2 (Or.inl (List.mem_append.2 (Or.inr hkx))))))
 refine W.perm ?_
 exact (List.perm_middle (a := rdcB ((done ++ [e]) ++ (news ++ [⟨lv, mv, ll, lm⟩]))) (l₁ := [boxC S ov wv, slC ov ((done ++ (e :: post) ++ news).map EnB.a), slC wv ((done ++ (e :: post) ++ news).map EnB.m)])).symm
end
theorem All.sl_append2 {b s : Comp} {v v' x : Value} {vs : List Value} {cs : List Comp} {w w1 : World} {base : Nat} (h : All (b :: s :: slC v vs :: cs) w) (hown : w1.ownsRow base 32 1 v' (vs.length + 1) (vs ++ [x])) (hg : w.grownBy w1 v.ownBlock) (hat : v'.ownBlock = v.ownBlock ∨ v'.ownBlock = some w.heap.size) : All (b :: s :: slC v' (vs ++ [x]) :: cs) w1 := by
 have p : (b :: s :: slC v vs :: cs).Perm (slC v vs :: b :: s :: cs) := List.perm_middle (a := slC v vs) (l₁ := [b, s])
 exact ((h.perm p).sl_append hown hg hat).perm (List.perm_middle (a := slC v' (vs ++ [x])) (l₁ := [b, s])).symm
theorem SpB.grew {w : World} {S : Nat} {ov wv lv mv : Value} {cs : List Comp} {done post news : List EnB} {e : EnB} {ll lm : List UInt8} (h0 : ∀ x ∈ done ++ (e :: post) ++ news, x.la = x.lm ∧ x.la.length ≤ 2199023255552) (h1 : ∀ x ∈ post, x.la.length ≤ 1099511627776) (hl : ll = lm) (hb : ll.length ≤ 2199023255552)
   (h : All (boxC S ov wv :: slC ov ((done ++ (e :: post) ++ news).map EnB.a ++ [lv]) :: slC wv ((done ++ (e :: post) ++ news).map EnB.m ++ [mv]) :: rdcB ((done ++ [e]) ++ (news ++ [⟨lv, mv, ll, lm⟩])) :: (byRs post ++ cs)) w) : SpB w S ov wv cs (done ++ [e]) post (news ++ [⟨lv, mv, ll, lm⟩]) := by
 refine ⟨?_, fun x hx => ?_, h1⟩
 · have e1 : (done ++ [e] ++ post ++ (news ++ [(⟨lv, mv, ll, lm⟩ : EnB)])).map EnB.a = (done ++ (e :: post) ++ news).map EnB.a ++ [lv] := by simp
   have e2 : (done ++ [e] ++ post ++ (news ++ [(⟨lv, mv, ll, lm⟩ : EnB)])).map EnB.m = (done ++ (e :: post) ++ news).map EnB.m ++ [mv] := by simp
   rw [e1, e2]
   exact h
 · have : x ∈ done ++ (e :: post) ++ news ∨ x = ⟨lv, mv, ll, lm⟩ := by
     simp only [List.mem_append, List.mem_cons, List.not_mem_nil, or_false] at hx ⊢
     rcases hx with ((hx | hx) | hx) | (hx | hx) <;> simp [hx]
   rcases this with hx | rfl
   · exact h0 x hx
   · exact ⟨hl, hb⟩
theorem SpB.ends {w : World} {S : Nat} {ov wv : Value} {cs : List Comp} {done news : List EnB} (h : SpB w S ov wv cs done [] news) : ∀ x ∈ done ++ [] ++ news, Reads w x.a x.la ∧ Reads w x.m x.lm ∧ x.la = x.lm ∧ x.la.length ≤ 140737488355328 := by
 intro x hx
 have hr : ∀ e ∈ done ++ news, Reads w e.a e.la ∧ Reads w e.m e.lm := h.all.2.2.2.2.2.2.1.2.1
 have := h.ok x hx
 have hx' : x ∈ done ++ news := by simpa using hx
 exact ⟨(hr x hx').1, (hr x hx').2, this.1, by omega⟩
theorem mark2_cell (i : Nat) : [Value.int .u8 (((i : Int) * 7 + 2) % 256)] = cellsB [UInt8.ofNat (i * 7 + 2)] := by
 simp only [cellsB, List.map_cons, List.map_nil, UInt8.toNat_ofNat']
 congr 2
end Go.Proofs.YtfeppannfcbakaaGreatDoor

namespace Go.Proofs.YtfeppannfcbakaaGreatDoor
open Go.RowKit
set_option linter.unusedVariables false
set_option maxRecDepth 1000000
set_option maxHeartbeats 6400000
theorem mark_cell (i : Nat) : ((i : Int) * 7 + 1) % 256 = ((UInt8.ofNat (i * 7 + 1)).toNat : Int) := by
 rw [UInt8.toNat_ofNat']
 omega
structure SpE (w : World) (S : Nat) (ov wv : Value) (cs : List Comp) (es : List EnB) : Prop where
 all : All (boxC S ov wv :: slC ov (es.map EnB.a) :: slC wv (es.map EnB.m) :: rdcB es :: cs) w
 ok : ∀ e ∈ es, e.la = e.lm ∧ e.la.length ≤ 2199023255552
theorem SpE.box {w : World} {S : Nat} {ov wv : Value} {cs : List Comp} {es : List EnB} (h : SpE w S ov wv cs es) : ShBox w S ov wv es := by
 have h1 : w.ownsRow 0 32 1 ov (es.map EnB.a).length (es.map EnB.a) := h.all.2.2.1.2.1
 have h2 : w.ownsRow 0 32 1 wv (es.map EnB.m).length (es.map EnB.m) := h.all.2.2.2.2.1.2.1
 rw [List.length_map] at h1 h2
 exact ⟨h.all.1.2.1, h1, h2⟩
theorem SpE.reads {w : World} {S : Nat} {ov wv : Value} {cs : List Comp} {es : List EnB} (h : SpE w S ov wv cs es) : ∀ e ∈ es, Reads w e.a e.la ∧ Reads w e.m e.lm ∧ e.la = e.lm ∧ e.la.length ≤ 140737488355328 := by
 intro e he
 have hr : ∀ e ∈ es, Reads w e.a e.la ∧ Reads w e.m e.lm := h.all.2.2.2.2.2.2.1.2.1
 exact ⟨(hr e he).1, (hr e he).2, (h.ok e he).1, Nat.le_trans (h.ok e he).2 (by decide)⟩
theorem SpE.holds {w : World} {S : Nat} {ov wv : Value} {cs : List Comp} {es : List EnB} (h : SpE w S ov wv cs es) (hl : es.length ≤ 1099511627776) :
   Calls Tryz.prog 76 #[.pointer (some ⟨S, 0, none⟩)] w fun e w' => e = .returned (.bool true) ∧ ∃ q, w' = w.drewN q :=
 holdsB_any h.box h.reads (by omega)
theorem SpA.reads {w : World} {S : Nat} {ov wv : Value} {us ms : List Value} {cs : List Comp} {es : List EnB} (h : SpA w S ov wv us ms cs es) : ∀ x ∈ es, Reads w x.a x.la ∧ Reads w x.m x.lm ∧ x.la = x.lm ∧ x.la.length ≤ 140737488355328 := by
 intro x hx
 have := h.ok x hx
 have hr := h.rowA hx
 exact ⟨Reads.of_owns hr.1, Reads.of_owns hr.2, this.1, by omega⟩
theorem SpA.drewN {w : World} {S : Nat} {ov wv : Value} {us ms : List Value} {cs : List Comp} {es : List EnB} (h : SpA w S ov wv us ms cs es) (q : Nat) : SpA (w.drewN q) S ov wv us ms cs es :=
 ⟨h.all.kept (F := []) ⟨rfl, rfl, rfl, Nat.le_refl _, fun _ _ _ => rfl⟩ (fun d _ k hk => by cases hk), h.ea, h.em, h.ok⟩
theorem spoil_any {w : World} {S : Nat} {ov wv : Value} {us ms : List Value} {cs : List Comp} {es : List EnB} (h : SpA w S ov wv us ms cs es) (hn : es.length ≤ 1099511627776) :
   Calls Tryz.prog 39 #[.pointer (some ⟨S, 0, none⟩)] w fun e w' => e = .returned (.bool true) ∧ ∃ ov' wv' es2, es2.length = 2 * es.length ∧ SpE w' S ov' wv' cs es2 := by
 obtain ⟨ao, c, ao', c', eo, ew⟩ := h.box.forms
 have HC0 := hid (holdsB_any h.box h.reads (by omega))
 have HA0 := hid h
 have c0 : w.cell? ⟨S, 0, none⟩ = some (.slice ao es.length c) := by rw [cell_at h.box.box, ← eo]; rfl
 have EO := hid eo
 have EW := hid ew
 have hl := h.lens
 clear h eo ew
 go_enter Tryz.func39, Tryz.ntmps39
 go_wp2_with fail
 refine Calls.mono HC0.out ?_
 rintro e0 w00 ⟨rfl, q00, rfl⟩
 have HA := hid (HA0.out.drewN q00)
 clear HC0 HA0
 go_wp2
 go_loopw [4] (fun iv wr => ∃ (i : Nat) (es' : List EnB), i ≤ es.length ∧ iv = .int .i64 (i : Int) ∧ Hid (SpA wr S ov wv us ms cs es')) (fun iv _ => es.length - (intOf iv).toNat)
 case atStart => exact ⟨0, es, by omega, rfl, HA⟩
 case round =>
   obtain ⟨i, es', hi, rfl, hrel⟩ := hrel
   have hle : es'.length = es.length := by have := hrel.out.lens; omega
   by_cases hlt : i < es.length
   · obtain ⟨e, he⟩ : ∃ e, es'[i]? = some e := ⟨_, List.getElem?_eq_getElem (by omega)⟩
     obtain ⟨aa, ca, ea⟩ := owns_form (hrel.out.rowA (List.mem_of_getElem? he)).1
     have hlen := (hrel.out.ok e (List.mem_of_getElem? he)).2
     have HE := hid he
     have HLE := hid hle
     have EA := hid ea
     clear he hle ea
     go_wp2
     go_loopw [5] (fun kv wr2 => ∃ (k : Nat) (es2 : List EnB) (e2 : EnB), k ≤ e.la.length ∧ kv = .int .i64 (k : Int) ∧ Hid (SpA wr2 S ov wv us ms cs es2 ∧ es2[i]? = some e2 ∧ e2.a = e.a ∧ e2.m = e.m ∧ e2.la.length = e.la.length)) (fun kv _ => e.la.length - (intOf kv).toNat)
     case atStart => exact ⟨0, es', e, by omega, rfl, hrel.out, HE.out, rfl, rfl, rfl⟩
     case round =>
       obtain ⟨k, es2, e2, hk, rfl, hrel2⟩ := hrel
       obtain ⟨hsp, hge, hea, hem, hel⟩ := hrel2.out
       have hle2 : es2.length = es.length := by have := hsp.lens; omega
       by_cases hk2 : k < e.la.length
       · obtain ⟨g, cg, g', cg', go, co, gw, cw, ea2, em2, eo2, ew2, q0, q1, q2, q3, ⟨u, q4⟩, ⟨u', q5⟩, q6, q7, d1, d2, d3, hnext⟩ := hsp.round i e2 hge k (by omega)
         obtain ⟨es3, e3, h3⟩ := hnext (UInt8.ofNat (i * 7 + 1))
         rw [← mark_cell i] at h3
         have R3 := hid h3
         rw [eo2] at q0
         rw [ew2] at q1
         rw [ea2] at q2
         rw [em2] at q3
         have HEA := hid hea
         have HEM := hid hem
         have HEL := hid hel
         have hi2 : i < es2.length := by omega
         have hk3 : k < e2.la.length := by omega
         have hlen2 : e2.la.length ≤ 1099511627776 := by omega
         have hi3 : i ≤ 1099511627776 := by omega
         have hk4 : k + 1 ≤ e.la.length := by omega
         clear hsp hge hnext h3 ea2 em2 eo2 ew2 hrel2 hle2 hea hem hel hk2 hlt hi
         go_wp2
         go_roundw
         case rel => exact ⟨k + 1, es3, e3, hk4, by go_num, R3.out.1, R3.out.2.1, R3.out.2.2.1.trans HEA.out, R3.out.2.2.2.1.trans HEM.out, R3.out.2.2.2.2.trans HEL.out⟩
         case measure => simp [intOf]; omega
       · obtain ⟨go, co, gw, cw, eo2, ew2, q2, _⟩ := hsp.box.at i e2 hge
         have q0 : wr.cell? ⟨S, 0, none⟩ = some (.slice (some ⟨go, 0, none⟩) es2.length co) := by rw [cell_at hsp.box.box, ← eo2]; rfl
         rw [hea, EA.out] at q2
         have hi2 : i < es2.length := by omega
         have R2 := hid hsp
         clear hsp hge eo2 ew2 hrel2 hle2 hea hem hel
         go_wp2
         go_roundw
         case rel => exact ⟨i + 1, es2, by omega, by go_num, R2⟩
         case measure => simp [intOf]; omega
   · have R1 := hid hrel.out
     have hbx := hrel.out.box
     have hrd : ∀ x ∈ es', Reads wr x.a x.la ∧ Reads wr x.m x.lm ∧ x.la = x.lm ∧ x.la.length ≤ 140737488355328 := by
       intro x hx
       have := hrel.out.ok x hx
       have hr := hrel.out.rowA hx
       exact ⟨Reads.of_owns hr.1, Reads.of_owns hr.2, this.1, by omega⟩
     have HC := hid (holdsB_any hbx hrd (by omega))
     clear hbx hrd hrel
     go_wp2_with fail
     refine Calls.mono HC.out ?_
     rintro e w2 ⟨rfl, q, rfl⟩
     have B0 : Hid (SpB (wr.drewN q) S ov wv cs [] es' []) := SpB.of ⟨R1.out.all.kept (F := []) ⟨rfl, rfl, rfl, Nat.le_refl _, fun _ _ _ => rfl⟩ (fun d _ k hk => by cases hk), R1.out.ea, R1.out.em, R1.out.ok⟩
     have HLE := hid hle
     clear HC R1 c0 hle
     obtain ⟨i5, hi5, hz50, hz51, hz52⟩ := info_parts Tryz.info5
     obtain ⟨i37, hi37, hz370, hz371, hz372⟩ := info_parts Tryz.info32
     go_wp2
     go_loopw [6] (fun iv wr => ∃ (i : Nat) (done post news : List EnB) (ov wv : Value), i ≤ es.length ∧ iv = .int .i64 (i : Int) ∧ Hid (done.length = i ∧ (done ++ post).length = es.length ∧ news.length = i ∧ SpB wr S ov wv cs done post news)) (fun iv _ => es.length - (intOf iv).toNat)
     case atStart => exact ⟨0, [], es', [], ov, wv, by omega, rfl, rfl, by simpa using HLE.out, rfl, B0⟩
     case round =>
       obtain ⟨i, done, post, news, ov2, wv2, hi, rfl, hrel⟩ := hrel
       by_cases hlt : i < es.length
       · obtain ⟨hdl, hpl, hnl, hsp⟩ := hrel.out
         obtain ⟨e, post', rfl⟩ : ∃ e post', post = e :: post' := by
           cases post with
           | nil => simp at hpl; omega
           | cons e p => exact ⟨e, p, rfl⟩
         have hge : (done ++ (e :: post') ++ news)[i]? = some e := by
           rw [List.append_assoc, List.getElem?_append_right (by omega)]
           simp [hdl]
         obtain ⟨go, co, gw, cw, eo2, ew2, q2, q3⟩ := hsp.box.at i e hge
         have q0 : wr.cell? ⟨S, 0, none⟩ = some (.slice (some ⟨go, 0, none⟩) (done ++ (e :: post') ++ news).length co) := by rw [cell_at hsp.box.box, ← eo2]; rfl
         have q1 : wr.cell? ⟨S, 1, none⟩ = some (.slice (some ⟨gw, 0, none⟩) (done ++ (e :: post') ++ news).length cw) := by rw [cell_at hsp.box.box, ← ew2]; rfl
         have hrow : wr.ownsRow 0 5 1 e.a e.la.length (cellsB e.la) ∧ wr.ownsRow 0 5 1 e.m e.lm.length (cellsB e.lm) :=
           ⟨(hsp.all.2.2.2.2.2.2.2.2.mem (c := byR e.a e.la) (by simp [byRs])).2.1, (hsp.all.2.2.2.2.2.2.2.2.mem (c := byR e.m e.lm) (by simp [byRs])).2.1⟩
         obtain ⟨aa, ca, ea⟩ := owns_form hrow.1
         obtain ⟨am, cm, em⟩ := owns_form hrow.2
         have hok := hsp.ok e (by simp)
         have RM := hid (Reads.of_owns hrow.2)
         rw [em] at RM
         rw [ea] at q2
         rw [em] at q3
         have hil : i < (done ++ (e :: post') ++ news).length := by simp; omega
         have HD := hid hrel.out
         have EA := hid ea
         have hlm := hok.1
         have hbl : e.lm.length ≤ 2199023255552 := by rw [← hok.1]; exact hok.2
         have hbl2 : e.la.length ≤ 2199023255552 := hok.2
         have HLM := hid hlm
         generalize hNN : (done ++ (e :: post') ++ news).length = NN at *
         have hNb : NN ≤ 2199023255552 := by rw [← hNN]; simp; simp at hpl; omega
         have HNN := hid hNN
         clear hdl hpl hnl hsp hge eo2 ew2 hrow hok hrel ea em hlm hNN
         go_wp2_with fail
         refine (lcopied_any RM.out (by omega)).mono ?_
         rintro e0 w2 ⟨v2, rfl, h1, h2⟩
         obtain ⟨x2, y2, hv2⟩ := owns_form h1
         subst hv2
         have A1 := hid (HD.out.2.2.2.begin h2 h1)
         clear h1 h2 q0 q1 q2 q3
         go_wp2
         go_loopw [7, 8, 9] (fun lv mv kv wr => ∃ (k : Nat) (t : List UInt8), k ≤ 12 ∧ kv = .int .i64 (k : Int) ∧ Hid (t.length = k ∧ All (extC e.a e.la lv (e.la ++ t) :: byR mv (e.lm ++ t) :: restB S ov2 wv2 cs done post' news e) wr)) (fun _ _ kv _ => 12 - (intOf kv).toNat)
         case atStart => exact ⟨0, [], by omega, rfl, rfl, by rw [List.append_nil, List.append_nil, ← EA.out]; exact A1.out⟩
         case round =>
           obtain ⟨k, t, hk, rfl, hrel⟩ := hrel
           obtain ⟨htl, hall⟩ := hrel.out
           obtain ⟨La, hLa⟩ : ∃ La, La = e.la ++ t := ⟨_, rfl⟩
           obtain ⟨Lm, hLm⟩ : ∃ Lm, Lm = e.lm ++ t := ⟨_, rfl⟩
           rw [← hLa, ← hLm] at hall
           have AL := hid hall
           have HTL := hid htl
           have hl8 : wr.ownsRow 0 5 1 u7 La.length (cellsB La) := hall.1.2.1.2.1
           have hl9 : wr.ownsRow 0 5 1 u8 Lm.length (cellsB Lm) := hall.2.2.1.2.1
           have hb8 : La.length ≤ 2199023255600 := by rw [hLa, List.length_append]; omega
           have hb9 : Lm.length ≤ 2199023255600 := by rw [hLm, List.length_append]; omega
           have HLa := hid hLa
           have HLm := hid hLm
           clear htl hall hrel hLa hLm
           by_cases hk2 : k < 12
           · go_wp2_with (at_builtin; refine wpList_append_two _ rfl (.tmp 88) (.tmp 93) 32 rfl 5 i5 (.int .u8 0) 1 1 Tryz.underlying32 hi5 hz50 hz51 hz52 rfl (by decide) _ _ _ rfl (hl8.alloc _) ⟨wr.heap.size, 0, none⟩ 1 1 [.int .u8 (((i : Int) * 7 + 2) % 256)] rfl rfl (cell_one_new _ _ _) (fun u hu => by simp at hu; subst hu; rfl) (by omega) (by unfold maxLen; omega) (by omega) ?_)
             intro g1 cap1 w3 hown hgr hat
             rw [mark2_cell i] at hown
             have A2 := hid (((AL.out.alloc (.cells #[.int .u8 (((i : Int) * 7 + 2) % 256)] 5)).ext_append hown hgr (by simpa using hat))).swap
             have hl9b : w3.ownsRow 0 5 1 u8 Lm.length (cellsB Lm) := A2.out.1.2.1
             clear hown hgr hat hl8 hl9
             go_wp2_with (at_builtin; refine wpList_append_two _ rfl (.tmp 95) (.tmp 100) 32 rfl 5 i5 (.int .u8 0) 1 1 Tryz.underlying32 hi5 hz50 hz51 hz52 rfl (by decide) _ _ _ rfl (hl9b.alloc _) ⟨w3.heap.size, 0, none⟩ 1 1 [.int .u8 (((i : Int) * 7 + 2) % 256)] rfl rfl (cell_one_new _ _ _) (fun u hu => by simp at hu; subst hu; rfl) (by omega) (by unfold maxLen; omega) (by omega) ?_)
             intro g2 cap2 w4 hown hgr hat
             rw [mark2_cell i] at hown
             have A3 := hid (((A2.out.alloc (.cells #[.int .u8 (((i : Int) * 7 + 2) % 256)] 5)).byR_append hown hgr (by simpa using hat))).swap
             clear hown hgr hat hl9b A2
             go_wp2
             go_roundw
             case rel => exact ⟨k + 1, t ++ [UInt8.ofNat (i * 7 + 2)], by omega, by go_num, by rw [List.length_append, HTL.out]; rfl, by rw [← List.append_assoc, ← List.append_assoc, ← HLa.out, ← HLm.out]; exact A3.out⟩
             case measure => simp [intOf]; omega
           · obtain ⟨a8, c8, e8⟩ := owns_form hl8
             obtain ⟨a9, c9, e9⟩ := owns_form hl9
             subst e8 e9
             have R0 := restB_close AL.out
             obtain ⟨U, hU⟩ : ∃ U, U = (done ++ (e :: post') ++ news).map EnB.a := ⟨_, rfl⟩
             obtain ⟨M, hM⟩ : ∃ M, M = (done ++ (e :: post') ++ news).map EnB.m := ⟨_, rfl⟩
             have hUl : U.length = NN := by rw [hU, List.length_map, HNN.out]
             have hMl : M.length = NN := by rw [hM, List.length_map, HNN.out]
             rw [← hU, ← hM] at R0
             have R := hid R0
             have horow : wr.ownsRow 0 32 1 ov2 U.length U := R0.2.2.1.2.1
             have hwrow : wr.ownsRow 0 32 1 wv2 M.length M := R0.2.2.2.2.1.2.1
             obtain ⟨ao2, co2, eo2⟩ := owns_form horow
             obtain ⟨aw2, cw2, ew2⟩ := owns_form hwrow
             have hb0 : wr.heap[S]? = some (.cells #[ov2, wv2] 77 (0, 0)) := R0.1.2.1
             rw [eo2, ew2] at hb0
             have c0 : wr.cell? ⟨S, 0, none⟩ = some (.slice ao2 U.length co2) := by rw [cell_at hb0]; rfl
             rw [eo2] at horow
             rw [eo2, ew2] at R
             have HU := hid hU
             have HM := hid hM
             have hk12 : k = 12 := by omega
             have hbU : U.length ≤ 2199023255552 := by omega
             have hbM : M.length ≤ 2199023255552 := by omega
             clear R0 hU hM hUl hMl hwrow eo2 ew2 hb0 hl8 hl9 AL A1 RM
             go_wp2_with (at_builtin; refine wpList_append_own_at _ rfl (.tmp 106) (.tmp 108) 75 rfl 0 32 i37 (.slice none 0 0) 1 24 Tryz.underlying75 hi37 hz370 hz371 hz372 rfl (by decide) _ _ _ rfl (horow.alloc _) ⟨wr.heap.size, 0, none⟩ 1 1 [.slice a8 La.length c8] rfl rfl (cell_one_new _ _ _) (fun u hu => by simp at hu; subst hu; rfl) (by unfold maxLen; omega) (by omega) (by omega) ?_)
             intro ov' w1 hown hgr hnil hat
             have A1 := hid (((R.out.alloc (.cells #[.slice a8 La.length c8] 32)).swap).sl_append hown hgr (by simpa using hat)).swap
             obtain ⟨ao', c', eo⟩ := owns_form hown
             subst eo
             clear hown hgr hnil hat horow R
             have hb1 := A1.out.1.2.1
             have d0 : w1.cell? ⟨S, 0, none⟩ = some (.slice ao2 U.length co2) := by rw [cell_at hb1]; rfl
             have d1 : w1.cell? ⟨S, 1, none⟩ = some (.slice aw2 M.length cw2) := by rw [cell_at hb1]; rfl
             have f0 : w1.frozen? ⟨S, 0, none⟩ = false := free_at hb1 0
             have A2 := hid (A1.out.box_set0 (u := .slice ao' (U.length + 1) c'))
             have hwrow : (w1.setCell ⟨S, 0, none⟩ (.slice ao' (U.length + 1) c')).ownsRow 0 32 1 (.slice aw2 M.length cw2) M.length M := A2.out.2.2.2.2.1.2.1
             have hnew := cell_one_new (w1.setCell ⟨S, 0, none⟩ (.slice ao' (U.length + 1) c')) (.slice a9 Lm.length c9) 32
             rw [World.size_setCell] at hnew
             have HNEW := hid hnew
             have HWR := hid hwrow
             clear hb1 c0 A1 hnew hwrow
             go_wp2_with (at_builtin; refine wpList_append_own_at _ rfl (.tmp 116) (.tmp 118) 75 rfl 0 32 i37 (.slice none 0 0) 1 24 Tryz.underlying75 hi37 hz370 hz371 hz372 rfl (by decide) _ _ _ rfl (HWR.out.alloc _) ⟨w1.heap.size, 0, none⟩ 1 1 [.slice a9 Lm.length c9] rfl rfl HNEW.out (fun u hu => by simp at hu; subst hu; rfl) (by unfold maxLen; omega) (by omega) (by omega) ?_)
             intro wv' w3 hown hgr hnil hat
             have A3 := hid ((A2.out.alloc (.cells #[.slice a9 Lm.length c9] 32)).sl_append2 hown hgr (by simpa using hat))
             obtain ⟨aw', cw', ew⟩ := owns_form hown
             subst ew
             clear hown hgr hnil hat HWR HNEW A2
             have hb3 := A3.out.1.2.1
             have d1 : w3.cell? ⟨S, 1, none⟩ = some (.slice aw2 M.length cw2) := by rw [cell_at hb3]; rfl
             have f1 : w3.frozen? ⟨S, 1, none⟩ = false := free_at hb3 1
             have A4 := hid (A3.out.box_set1 (u := .slice aw' (M.length + 1) cw'))
             clear hb3 A3 d0
             go_wp2
             go_roundw
             case rel =>
               have hU := HU.out
               have hM := HM.out
               clear HU HM
               subst hU hM
               obtain ⟨hd1, hd2, hd3, hd4⟩ := HD.out
               have hp := hd4.okp e (by simp)
               have htk := HTL.out
               refine ⟨i + 1, done ++ [e], post', news ++ [⟨_, _, La, Lm⟩], _, _, by omega, by go_num, by simp [hd1], by simpa using hd2, by simp [hd3], SpB.grew hd4.ok (fun x hx => hd4.okp x (by simp [hx])) (by rw [HLa.out, HLm.out, HLM.out]) (by rw [HLa.out, List.length_append]; omega) A4.out⟩
             case measure => simp [intOf]; omega
       · obtain ⟨hdl, hpl, hnl, hsp⟩ := hrel.out
         have hpost : post = [] := by
           rw [List.length_append] at hpl
           exact List.eq_nil_of_length_eq_zero (by omega)
         subst hpost
         have hbx := hsp.box
         have HC := hid (holdsB_any hbx hsp.ends (by simp; omega))
         have HS := hid hsp
         have HL := hid (show done.length = i ∧ (done ++ []).length = es.length ∧ news.length = i ∧ SpB wr S ov2 wv2 cs done [] news from ⟨hdl, hpl, hnl, hsp⟩)
         clear hbx hsp hpl hdl hnl hrel
         go_wp2_with fail
         refine Calls.mono HC.out ?_
         rintro e w2 ⟨rfl, q, rfl⟩
         have HF := hid (show (done ++ news).length = 2 * es.length ∧ SpE (wr.drewN q) S ov2 wv2 cs (done ++ news) from by
           obtain ⟨hd1, hd2, hd3, hd4⟩ := HL.out
           refine ⟨by simp at hd2 ⊢; omega, ⟨?_, fun e he => hd4.ok e (by simpa using he)⟩⟩
           have := hd4.all
           simp only [List.append_nil, byRs, List.flatMap_nil, List.nil_append] at this
           exact this.kept (F := []) ⟨rfl, rfl, rfl, Nat.le_refl _, fun _ _ _ => rfl⟩ (fun d _ k hk => by cases hk))
         clear HC HS HL
         go_wp2
         go_ret
         exact ⟨rfl, _, _, _, HF.out.1, HF.out.2⟩
set_option linter.unusedVariables false
theorem append_two {P : Program} (w : World) (t e : TypeId) (i : TypeInfo) (z : Value) (size bytes : Nat) (ht : P.underlying t = some (.slice e)) (hi : P.info? e = some i) (hz : i.zero = some z)
   (hsize : i.size = size) (hby : i.bytes = bytes) (hzs : z.cells.size = size) (hsz : 0 < size)
   (v : Value) (n : Nat) (xs : List Value) (hown : w.ownsRow 0 e size v n xs)
   (ad : Addr) (m c : Nat) (news : List Value) (hl : news.length = m * size) (hnews : ∀ j u, news[j]? = some u → w.cell? (ad.add j) = some u) (h1 : ∀ u ∈ news, u.oneCell' = true)
   (hm : 0 < m) (h63 : n + m ≤ maxLen) (hbytes : (n + m) * bytes ≤ 140737488355328) :
   ∃ g cap w', (Builtin.append_ #[t, t] t #[v, .slice (some ad) m c]).run P w = .ok (.slice (some ⟨g, 0, none⟩) (n + m) cap) w' ∧ w'.ownsRow 0 e size (.slice (some ⟨g, 0, none⟩) (n + m) cap) (n + m) (xs ++ news) ∧ w.grownBy w' v.ownBlock ∧ (v.ownBlock = some g ∨ (g = w.heap.size ∧ Below w.heap.size w w')) := by
 obtain ⟨v', w', hr, h2, h3, h4, h5⟩ := run_append_own_at (P := P) w 0 t t e i z size bytes ht hi hz hsize hby hzs hsz v n xs hown ad m c news hl hnews h1 h63 hbytes (by omega)
 subst hsize
 subst hby
 have hkey : ∃ g cap, v' = .slice (some ⟨g, 0, none⟩) (n + m) cap ∧ (v.ownBlock = some g ∨ (g = w.heap.size ∧ Below w.heap.size w w')) := by
   rcases h2.2 with ⟨_, e0⟩ | ⟨g, cap, cur, e1, _⟩
   · omega
   · refine ⟨g, cap, e1, ?_⟩
     rcases hown.2 with ⟨rfl, rfl⟩ | ⟨g0, cap0, cur0, rfl, _, hg0, hn0, _, hcs0, htake0⟩
     · right
       have hr2 := run_append_nil (P := P) w t t e i z ht hi hz ad m c news hl hnews hm (by simp only [maxLen] at h63; omega) (by have hb := hbytes; simp only [Nat.zero_add] at hb; omega)
       rw [hr] at hr2
       simp only [Result.ok.injEq] at hr2
       obtain ⟨rfl, rfl⟩ := hr2
       simp only [Value.slice.injEq, Option.some.injEq, Addr.mk.injEq, and_true] at e1
       exact ⟨e1.1.symm, ((Below.refl _ _).drew).alloc (Nat.le_refl _) _⟩
     · by_cases hroom : n + m ≤ cap0
       · left
         rcases h5 with e5 | e5
         · rw [e1] at e5; exact e5.symm
         · exfalso
           obtain ⟨w2, hr2, _, _⟩ := run_append_fits (P := P) w 0 t t e i i.size ht hi rfl g0 n cap0 xs hown ad m c news hl hnews h1 hroom
           rw [hr] at hr2
           simp only [Result.ok.injEq] at hr2
           rw [hr2.1] at e5
           simp [Value.ownBlock] at e5
           have := (Array.getElem?_eq_some_iff.1 hg0).1
           omega
       · right
         have hr2 := run_append_grow (P := P) w t t e i z ht hi hz ⟨g0, 0, none⟩ n cap0 xs hown.1 (hown.cells (g := g0) rfl) ad m c news hl hnews (by omega) (by simp only [maxLen] at h63; omega) (growslice_fits (by omega) hbytes)
         rw [hr] at hr2
         simp only [Result.ok.injEq] at hr2
         obtain ⟨rfl, rfl⟩ := hr2
         simp only [Value.slice.injEq, Option.some.injEq, Addr.mk.injEq, and_true] at e1
         exact ⟨e1.1.symm, ((Below.refl _ _).drew).alloc (Nat.le_refl _) _⟩
 obtain ⟨g, cap, rfl, hk⟩ := hkey
 exact ⟨g, cap, w', hr, h2, h3, hk⟩
def RdR (w : World) (a : Value) (n : Nat) (vs : List Value) : Prop := ∃ ao c, a = .slice ao n c ∧ (vs = [] ∨ ∃ g, ao = some ⟨g, 0, none⟩ ∧ g < w.heap.size ∧ ∀ j u, vs[j]? = some u → w.cell? ⟨g, j, none⟩ = some u)
theorem RdR.kept {w w' : World} {a : Value} {n : Nat} {vs : List Value} (h : RdR w a n vs) (hs : w.heap.size ≤ w'.heap.size) (hb : ∀ k, k < w.heap.size → a.ownBlock = some k → w'.heap[k]? = w.heap[k]?) : RdR w' a n vs := by
 obtain ⟨ao, c, rfl, hx⟩ := h
 refine ⟨ao, c, rfl, ?_⟩
 rcases hx with e | ⟨g, rfl, hg, hc⟩
 · exact Or.inl e
 · refine Or.inr ⟨g, rfl, Nat.lt_of_lt_of_le hg hs, fun j u hu => ?_⟩
   have h1 := hc j u hu
   rw [← h1]
   unfold World.cell?
   simp only [hb g hg rfl]
theorem RdR.of_owns {w : World} {base : Nat} {e : TypeId} {size n : Nat} {a : Value} {vs : List Value} (h : w.ownsRow base e size a n vs) : RdR w a n vs := by
 obtain ⟨ao, c, rfl⟩ := owns_form h
 refine ⟨ao, c, rfl, ?_⟩
 rcases h.2 with ⟨e1, e2⟩ | ⟨g, cap, cur, e1, _, hg, _⟩
 · left
   have := h.1
   rw [e2, Nat.zero_mul] at this
   exact List.length_eq_zero_iff.1 this
 · simp only [Value.slice.injEq] at e1
   obtain ⟨rfl, _, _⟩ := e1
   refine Or.inr ⟨g, rfl, (Array.getElem?_eq_some_iff.1 hg).1, fun j u hu => ?_⟩
   have q := World.ownsRow.cells h (g := g) rfl j u hu
   simpa [Addr.add_lit] using q
def extR (e : TypeId) (size : Nat) (a : Value) (n : Nat) (vs : List Value) (v : Value) (m : Nat) (us : List Value) : Comp := ⟨fun w => RdR w a n vs ∧ w.ownsRow 0 e size v m us ∧ ∃ t, us = vs ++ t, a.ownBlock.toList ++ v.ownBlock.toList⟩
theorem extR_good (e : TypeId) (size : Nat) (a : Value) (n : Nat) (vs : List Value) (v : Value) (m : Nat) (us : List Value) : (extR e size a n vs v m us).Good := by
 intro w w' h hs hb
 exact ⟨h.1.kept hs.size (fun k _ hk => hb k (List.mem_append.2 (Or.inl (by rw [hk]; exact List.mem_singleton.2 rfl)))), owns_keep h.2.1 (fun k hk => hb k (List.mem_append.2 (Or.inr hk))), h.2.2⟩
theorem All.extR_begin {e : TypeId} {size n : Nat} {a : Value} {vs : List Value} {cs : List Comp} {w : World} (h : All (rowC e size a n vs :: cs) w) : All (extR e size a n vs a n vs :: cs) w :=
 h.weaken (extR_good _ _ _ _ _ _ _ _) (fun hh => ⟨RdR.of_owns hh, hh, [], by simp⟩) (fun k hk => by
   rcases List.mem_append.1 hk with hk | hk <;> exact hk)
theorem All.extR_grow {e : TypeId} {size n m : Nat} {a v : Value} {vs us news : List Value} {cs : List Comp} {w w1 : World} {g cap : Nat} (h : All (extR e size a n vs v m us :: cs) w) (hown : w1.ownsRow 0 e size (.slice (some ⟨g, 0, none⟩) (m + 1) cap) (m + 1) (us ++ news)) (hg : w.grownBy w1 v.ownBlock) (hat : v.ownBlock = some g ∨ (g = w.heap.size ∧ Below w.heap.size w w1)) :
   All (extR e size a n vs (.slice (some ⟨g, 0, none⟩) (m + 1) cap) (m + 1) (us ++ news) :: cs) w1 := by
 obtain ⟨hra, hro, t, ht⟩ := h.1.2.1
 have hf : Fr (extR e size a n vs v m us).fp w w1 := (grown_fr hg).mono (fun k hk => List.mem_append.2 (Or.inr hk))
 have hra1 : RdR w1 a n vs := by
   rcases hat with e1 | ⟨e1, hb⟩
   · by_cases hab : a.ownBlock = some g
     · obtain ⟨ao, c, rfl, hx⟩ := hra
       refine ⟨ao, c, rfl, ?_⟩
       rcases hx with e2 | ⟨ga, rfl, hga, hc⟩
       · exact Or.inl e2
       · have hgg : ga = g := by simpa [Value.ownBlock] using hab
         subst hgg
         refine Or.inr ⟨ga, rfl, Nat.lt_of_lt_of_le hga hg.size, fun j u hu => ?_⟩
         have hj := (List.getElem?_eq_some_iff.1 hu).1
         have q := World.ownsRow.cells hown (g := ga) rfl j u (by
           rw [ht, List.append_assoc, List.getElem?_append_left hj]
           exact hu)
         simpa [Addr.add_lit] using q
     · refine hra.kept hg.size (fun k hk0 hk => hg.block k hk0 (fun x => hab ?_))
       rw [e1] at x
       rw [hk, x]
   · exact hra.kept hb.size (fun k hk0 _ => hb.block k hk0)
 refine h.turn hf (extR_good _ _ _ _ _ _ _ _) ⟨hra1, hown, t ++ news, by rw [ht, List.append_assoc]⟩ (fun k hk => ?_) (fun k hk => ?_)
 · rcases List.mem_append.1 hk with hk | hk
   · exact Or.inl (List.mem_append.2 (Or.inl hk))
   · have hkg : k = g := by simpa [Value.ownBlock, eq_comm] using hk
     rcases hat with e1 | ⟨e1, _⟩
     · exact Or.inl (List.mem_append.2 (Or.inr (by rw [e1, hkg]; simp)))
     · exact Or.inr (by omega)
 · rcases List.mem_append.1 hk with hk | hk
   · exact Nat.lt_of_lt_of_le (h.1.2.2 k (List.mem_append.2 (Or.inl hk))) hg.size
   · have hkg : k = g := by simpa [Value.ownBlock, eq_comm] using hk
     rw [hkg]
     exact (World.ownsRow.lt hown g rfl).2
theorem row_of_blk {g n size : Nat} {e : TypeId} {vs : List Value} {cs : List Comp} {w : World} (h : All (blkC g vs e :: cs) w) (hl : vs.length = n * size) (hn : n ≤ 1000) : All (rowC e size (.slice (some ⟨g, 0, none⟩) n n) n vs :: cs) w :=
 h.weaken (rowC_good _ _ _ _ _) (fun hh => ⟨hl, Or.inr ⟨g, n, vs.toArray, rfl, Nat.zero_le _, hh, Nat.le_refl _, by unfold maxLen; omega, by simpa using hl, by simp [← hl]⟩⟩) (fun k hk => by simpa [rowC, blkC, Value.ownBlock, eq_comm] using hk)
theorem All.row_put {g n cap k : Nat} {e : TypeId} {vs : List Value} {cs : List Comp} {w : World} (h : All (rowC e 1 (.slice (some ⟨g, 0, none⟩) n cap) n vs :: cs) w) (u : Value) : All (rowC e 1 (.slice (some ⟨g, 0, none⟩) n cap) n (vs.set k u) :: cs) (w.setCell ⟨g, k, none⟩ u) := by
 have ho : w.ownsRow 0 e 1 (.slice (some ⟨g, 0, none⟩) n cap) n vs := h.1.2.1
 have hs := (World.ownsRow.stored ho k u).1
 refine h.turn (Fr.setCell w g k _) (rowC_good _ _ _ _ _) hs (Gr.refl _ _) (fun k' hk' => ?_)
 have := h.1.2.2 k' hk'
 simpa [World.setCell] using this
end Go.Proofs.YtfeppannfcbakaaGreatDoor

import Derived.Test.YteloaggebkbeeaaDoorPx7
import Derived.Deep.Draws
import Derived.Deep.Upon
import Derived.Deep.QuietTactic
import Derived.BigQuiet
namespace Go.Proofs.YteloaggebkbeeaaDoor
open Go.RowKit
set_option linter.unusedVariables false
theorem srcNil {w : World} {size : Nat} {tx e' : TypeId} (hk : Tryd.prog.underlying tx = some (.slice e')) (ao : Option Addr) (c : Nat) : Src Tryd.prog size tx (.slice ao 0 c) 0 [] w := by
  cases ao with
  | none => exact Src.ofNil w hk c
  | some a => exact Src.ofSlice w hk a 0 c [] (by simp) (fun j u h => by simp at h) (fun u h => by simp at h)
theorem wpList_append_run {P : Program} {w : World} {ops : Array Oper} {rest : List Oper} {o : Oper} {a : Act} {Q : Exit → Act → World → Prop} (hgd : o.guard = none) (s x : Operand) (t : TypeId)
    (ho : o.op = .call { callee := .builtin .append, args := #[s, x], argTypes := #[t, t] }) (v1 v2 v' : Value) (w' : World) (hs : a.eval s = v1) (hx : a.eval x = v2)
    (hr : (Builtin.append_ #[t, t] o.type #[v1, v2]).run P w = .ok v' w') (h : wpList P ops Q rest (a.put o.dst v') w') : wpList P ops Q (o :: rest) a w := by
  refine wpList_plain hgd fun K hK => ?_
  unfold Oper.wp execOp
  simp only [ho, resolve, invoke, builtin, Sem.run_bind, Sem.run_pure, Result.andThen_ok, List.map_toArray, List.map_cons, List.map_nil, hs, hx, hr]
  exact hK _ _ h
theorem one_new {x : Value} {H : Nat} {W : World} (hc : W.cell? ⟨H, 0, none⟩ = some x) : ∀ j u, [x][j]? = some u → W.cell? ((⟨H, 0, none⟩ : Addr).add j) = some u := by
  intro j u hu
  rw [Addr.add_lit]
  match j with
  | 0 => simp only [List.getElem?_cons_zero, Option.some.injEq] at hu; subst hu; simpa using hc
  | j + 1 => simp at hu
theorem one_cell {x : Value} (h : x.oneCell' = true) : ∀ u ∈ [x], u.oneCell' = true := by
  intro u hu
  simp only [List.mem_cons, List.not_mem_nil, or_false] at hu
  subst hu
  exact h
/-- A row of one's own, whatever its elements' size. -/
def rowC (e : TypeId) (size : Nat) (v : Value) (n : Nat) (vs : List Value) : Comp := ⟨fun w => w.ownsRow 0 e size v n vs, v.ownBlock.toList⟩
theorem owns_keep {w w' : World} {e : TypeId} {size n : Nat} {v : Value} {vs : List Value} (h : w.ownsRow 0 e size v n vs) (hb : ∀ k ∈ v.ownBlock.toList, w'.heap[k]? = w.heap[k]?) : w'.ownsRow 0 e size v n vs :=
  ⟨h.1, by
    rcases h.2 with hn | ⟨g, cap, cur, rfl, hg, hgg, rest⟩
    · exact Or.inl hn
    · exact Or.inr ⟨g, cap, cur, rfl, hg, by rw [hb g (by simp [Value.ownBlock])]; exact hgg, rest⟩⟩
theorem rowC_good (e : TypeId) (size : Nat) (v : Value) (n : Nat) (vs : List Value) : (rowC e size v n vs).Good := fun w w' h hs hb => owns_keep h hb
theorem All.addRow0 {e : TypeId} {size : Nat} {cs : List Comp} {w : World} (h : All cs w) : All (rowC e size (.slice none 0 0) 0 [] :: cs) w :=
  ⟨⟨rowC_good _ _ _ _ _, ⟨by simp, Or.inl ⟨rfl, rfl⟩⟩, fun k hk => by simp [rowC, Value.ownBlock] at hk⟩, fun d hd k hk => by simp [rowC, Value.ownBlock] at hk, h⟩
theorem All.rowGrow {e : TypeId} {size n n' : Nat} {v v' : Value} {vs vs' : List Value} {cs : List Comp} {w w1 : World} {base : Nat} (h : All (rowC e size v n vs :: cs) w) (hown : w1.ownsRow base e size v' n' vs') (hg : w.grownBy w1 v.ownBlock) (hat : v'.ownBlock = v.ownBlock ∨ v'.ownBlock = some w.heap.size) : All (rowC e size v' n' vs' :: cs) w1 := by
  have ho' := owns_zero hown
  refine h.turn ((grown_fr hg).mono (fun k hk => by simpa [rowC] using hk)) (rowC_good _ _ _ _ _) ho' (fun k hk => ?_) (fun k hk => ?_)
  · have hk' : v'.ownBlock = some k := by simpa [rowC] using hk
    rcases hat with e1 | e1
    · exact Or.inl (by simp [rowC, ← e1, hk'])
    · rw [e1] at hk'; simp at hk'; exact Or.inr (by omega)
  · have hk' : v'.ownBlock = some k := by simpa [rowC] using hk
    exact (ho'.lt k hk').2
/-- Elements are laid behind a row of one's own. -/
theorem appN {W : World} {e t : TypeId} {i : TypeInfo} {z v : Value} {size bytes n m c : Nat} {us news : List Value} {cs : List Comp} (hu : Tryd.prog.underlying t = some (.slice e)) (hi : Tryd.prog.info? e = some i) (hz : i.zero = some z) (hsize : i.size = size) (hby : i.bytes = bytes) (hzs : z.cells.size = size) (hsz : 0 < size)
    (A : All (rowC e size v n us :: cs) W) (ao2 : Option Addr) (hl : news.length = m * size) (hnews : 0 < m → ∃ a, ao2 = some a ∧ ∀ j u, news[j]? = some u → W.cell? (a.add j) = some u) (h1 : ∀ u ∈ news, u.oneCell' = true) (h63 : n + m ≤ maxLen) (hb : (n + m) * bytes ≤ 140737488355328) :
    ∃ ao cap w', (Builtin.append_ #[t, t] t #[v, .slice ao2 m c]).run Tryd.prog W = .ok (.slice ao (n + m) cap) w' ∧ All (rowC e size (.slice ao (n + m) cap) (n + m) (us ++ news) :: cs) w' := by
  have hown : W.ownsRow 0 e size v n us := A.1.2.1
  by_cases hm : 0 < m
  · obtain ⟨a, rfl, hc⟩ := hnews hm
    obtain ⟨v', w', hr, h2, h3, h4, h5⟩ := run_append_own_at (P := Tryd.prog) W 0 t t e i z size bytes hu hi hz hsize hby hzs hsz v n us hown a m c news hl hc h1 h63 hb (by omega)
    obtain ⟨ao, cap, rfl⟩ := owns_form h2
    exact ⟨ao, cap, w', hr, A.rowGrow (base := 0) h2 h3 h5⟩
  · have hm0 : m = 0 := by omega
    subst hm0
    have hn0 : news = [] := List.length_eq_zero_iff.1 (by omega)
    subst hn0
    subst hsize
    rw [List.append_nil]
    rcases hown.2 with ⟨rfl, rfl⟩ | ⟨g, cap, cur, rfl, _, _, hle, _⟩
    · exact ⟨none, 0, W, run_append_nothing W t t t e i hu hi none 0 0 (Nat.le_refl _) _ (srcNil hu ao2 c), A⟩
    · exact ⟨_, cap, W, run_append_nothing W t t t e i hu hi _ n cap hle _ (srcNil hu ao2 c), A⟩
theorem All.addRowE {cs : List Comp} {w : World} (h : All cs w) (e : TypeId) (size : Nat) : All (rowC e size (.slice (some ⟨w.heap.size, 0, none⟩) 0 0) 0 [] :: cs) (w.alloc (.cells #[] e)) := by
  refine h.add (Fr.below (ba w _)) (rowC_good _ _ _ _ _) ?_ (fun k hk => ?_)
  · exact ⟨by simp, Or.inr ⟨w.heap.size, 0, #[], rfl, Nat.zero_le _, heap_alloc_new w _, Nat.le_refl _, by unfold maxLen; omega, by simp, by simp⟩⟩
  · have : k = w.heap.size := by simpa [rowC, Value.ownBlock, eq_comm] using hk
    subst this
    exact ⟨Nat.le_refl _, by simp⟩
/-- A row of one's own is read. -/
theorem row_at {w : World} {base : Nat} {e : TypeId} {size : Nat} {ao : Option Addr} {n c n' : Nat} {us : List Value} (h : w.ownsRow base e size (.slice ao n' c) n us) {k : Nat} {u : Value} (hu : us[k]? = some u) : ∃ g, ao = some ⟨g, 0, none⟩ ∧ g < w.heap.size ∧ w.cell? ⟨g, k, none⟩ = some u := by
  have hk := (List.getElem?_eq_some_iff.1 hu).1
  have hl := h.1
  rcases h.2 with ⟨e, e2⟩ | ⟨g, cap, cur, e, _, hg, hn, hm, hcs, ht⟩
  · subst e2; omega
  · simp only [Value.slice.injEq] at e
    refine ⟨g, e.1, (Array.getElem?_eq_some_iff.1 hg).1, ?_⟩
    rw [cell_at hg, ← Array.getElem?_toList]
    rw [← ht, List.getElem?_take, if_pos (by omega)] at hu
    exact hu
theorem row_cap {w : World} {base : Nat} {e : TypeId} {size : Nat} {ao : Option Addr} {n c n' : Nat} {us : List Value} (h : w.ownsRow base e size (.slice ao n' c) n us) : n' = n ∧ n ≤ c ∧ c ≤ maxLen := by
  rcases h.2 with ⟨e, e2⟩ | ⟨g, cap, cur, e, _, hg, hn, hm, hcs, ht⟩
  · simp only [Value.slice.injEq] at e
    obtain ⟨_, rfl, rfl⟩ := e
    exact ⟨e2.symm, by omega, by unfold maxLen; omega⟩
  · simp only [Value.slice.injEq] at e
    obtain ⟨_, rfl, rfl⟩ := e
    exact ⟨rfl, hn, hm⟩
theorem flat_len {α : Type} {f : α → List Value} {s : Nat} (hf : ∀ x, (f x).length = s) (l : List α) : (l.flatMap f).length = l.length * s := by
  induction l with
  | nil => simp
  | cons x l ih => rw [List.flatMap_cons, List.length_append, ih, hf, List.length_cons, Nat.succ_mul]; omega
theorem flat_at {α : Type} {f : α → List Value} {s : Nat} (hf : ∀ x, (f x).length = s) {l : List α} {i : Nat} {x : α} (hx : l[i]? = some x) {j : Nat} (hj : j < s) : (l.flatMap f)[i * s + j]? = (f x)[j]? := by
  induction l generalizing i with
  | nil => simp at hx
  | cons y l ih =>
    rw [List.flatMap_cons]
    cases i with
    | zero =>
      simp only [List.getElem?_cons_zero, Option.some.injEq] at hx
      subst hx
      rw [Nat.zero_mul, Nat.zero_add, List.getElem?_append_left (by rw [hf]; exact hj)]
    | succ i =>
      simp only [List.getElem?_cons_succ] at hx
      rw [List.getElem?_append_right (by rw [hf, Nat.succ_mul]; omega), hf, ← ih hx]
      congr 1
      rw [Nat.succ_mul]; omega
theorem flat_one {α : Type} {f : α → List Value} (hf : ∀ x, ∀ u ∈ f x, u.oneCell' = true) (l : List α) : ∀ u ∈ l.flatMap f, u.oneCell' = true := by
  intro u hu
  obtain ⟨x, _, h⟩ := List.mem_flatMap.1 hu
  exact hf x u h
/-- Cells that are read element by element are read as a row. -/
theorem flat_src {α : Type} {f : α → List Value} {s : Nat} (hs : 0 < s) (hf : ∀ x, (f x).length = s) {W : World} {ao : Option Addr} {l : List α} (h : ∀ (i : Nat) (x : α), l[i]? = some x → ∃ g o, ao = some ⟨g, o, none⟩ ∧ g < W.heap.size ∧ ∀ j u, (f x)[j]? = some u → W.cell? ⟨g, o + i * s + j, none⟩ = some u) :
    0 < l.length → ∃ a, ao = some a ∧ ∀ j u, (l.flatMap f)[j]? = some u → W.cell? (a.add j) = some u := by
  intro h0
  obtain ⟨g, o, rfl, _, _⟩ := h 0 _ (List.getElem?_eq_getElem h0)
  refine ⟨_, rfl, fun j u hu => ?_⟩
  have hj : j < l.length * s := by have := (List.getElem?_eq_some_iff.1 hu).1; rwa [flat_len hf] at this
  have hd : j / s < l.length := Nat.div_lt_of_lt_mul (by rw [Nat.mul_comm]; exact hj)
  obtain ⟨g', o', e, _, hc⟩ := h (j / s) _ (List.getElem?_eq_getElem hd)
  cases e
  have hm : j % s < s := Nat.mod_lt _ hs
  have h1 := flat_at hf (List.getElem?_eq_getElem hd) hm
  have h2 : j / s * s + j % s = j := by rw [Nat.mul_comm]; exact Nat.div_add_mod j s
  rw [h2, hu] at h1
  have h3 := hc (j % s) u h1.symm
  rw [Addr.add_lit]
  rw [show o + j / s * s + j % s = o + j by omega] at h3
  exact h3
/-- A row of one's own is read element by element. -/
theorem flat_row {α : Type} {f : α → List Value} {s : Nat} (hf : ∀ x, (f x).length = s) {W : World} {base : Nat} {e : TypeId} {ao : Option Addr} {n n' c : Nat} {l : List α} (hs : 0 < s) (h : W.ownsRow base e s (.slice ao n' c) n (l.flatMap f)) :
    ∀ (i : Nat) (x : α), l[i]? = some x → ∃ g o, ao = some ⟨g, o, none⟩ ∧ g < W.heap.size ∧ ∀ j u, (f x)[j]? = some u → W.cell? ⟨g, o + i * s + j, none⟩ = some u := by
  intro i x hx
  have hi := (List.getElem?_eq_some_iff.1 hx).1
  have hat : ∀ j u, (f x)[j]? = some u → ∃ g, ao = some ⟨g, 0, none⟩ ∧ g < W.heap.size ∧ W.cell? ⟨g, i * s + j, none⟩ = some u := by
    intro j u hu
    have hj : j < s := by have := (List.getElem?_eq_some_iff.1 hu).1; rwa [hf] at this
    exact row_at h (by rw [flat_at hf hx hj]; exact hu)
  obtain ⟨g, rfl, hg, _⟩ := hat 0 _ (List.getElem?_eq_getElem (by rw [hf]; exact hs))
  refine ⟨g, 0, rfl, hg, fun j u hu => ?_⟩
  obtain ⟨g', e, _, hc⟩ := hat j u hu
  cases e
  rw [Nat.zero_add]
  exact hc

theorem wp_append_run {P : Program} {w : World} {o : Oper} {a : Act} {K : Act → World → Prop} {Q : Exit → Act → World → Prop} (s x : Operand) (t : TypeId)
    (ho : o.op = .call { callee := .builtin .append, args := #[s, x], argTypes := #[t, t] }) (v1 v2 v' : Value) (w' : World) (hs : a.eval s = v1) (hx : a.eval x = v2)
    (hr : (Builtin.append_ #[t, t] o.type #[v1, v2]).run P w = .ok v' w') (h : K (a.put o.dst v') w') : o.wp P a w K Q := by
  unfold Oper.wp execOp
  simp only [ho, resolve, invoke, builtin, Sem.run_bind, Sem.run_pure, Result.andThen_ok, List.map_toArray, List.map_cons, List.map_nil, hs, hx, hr]
  exact h
theorem Ms.len (m : Ms) : m.cells.length = 23 := rfl
theorem Ms.one (m : Ms) : ∀ u ∈ m.cells, u.oneCell' = true := by
  intro u hu
  have := one41 m
  rw [Array.all_eq_true'] at this
  exact this u (by simpa using hu)
/-- A row of messages. -/
abbrev msC (v : Value) (l : List Ms) : Comp := rowC 41 23 v l.length (l.flatMap Ms.cells)
/-- One message more. -/
theorem appM {W : World} {v : Value} {l : List Ms} {x : Ms} {H : Nat} {cs : List Comp} (A : All (msC v l :: blkC H x.cells 41 :: cs) W) (hb : (l.length + 1) * 264 ≤ 140737488355328) :
    ∃ ao cap w', (Builtin.append_ #[49, 49] 49 #[v, .slice (some ⟨H, 0, none⟩) 1 1]).run Tryd.prog W = .ok (.slice ao (l.length + 1) cap) w' ∧ All (msC (.slice ao (l.length + 1) cap) (l ++ [x]) :: blkC H x.cells 41 :: cs) w' := by
  obtain ⟨i1, hi1, hz0, hz1, hz2⟩ := info_parts Tryd.inf41
  have hH : W.heap[H]? = some (.cells x.cells.toArray 41 (0, 0)) := A.tail.1.2.1
  have := appN (c := 1) und49 hi1 hz0 hz1 hz2 rfl (by decide) A (some ⟨H, 0, none⟩) (news := x.cells) (m := 1) rfl (fun _ => ⟨_, rfl, fun j u hu => by rw [Addr.add_lit, Nat.zero_add, cell_at hH]; simpa using hu⟩) x.one (by unfold maxLen; omega) hb
  have e : (l ++ [x]).flatMap Ms.cells = l.flatMap Ms.cells ++ x.cells := by simp
  unfold msC
  rw [e, List.length_append]
  exact this
end Go.Proofs.YteloaggebkbeeaaDoor

namespace Go.Proofs.YteloaggebkbeeaaDoor
open Go.RowKit
set_option linter.unusedVariables false

set_option maxHeartbeats 800000 in
set_option maxRecDepth 1000000 in
theorem next34 {P : Nat} {x : Px} {b m n1 n2 : Int} {cs : List Comp} {w : World} (h : All (pxL P x b m n1 n2 ++ cs) w) (n : Int) (hn : 1 ≤ n) (hw : 0 ≤ x.who) (hw2 : x.who ≤ 7) (ha : 0 ≤ x.again) (ha2 : x.again ≤ 4611686018427387904) : Calls Tryd.prog 34 #[.pointer (some ⟨P, 13, none⟩), .int .i64 n] w fun e w' => e = .returned (.int .i64 ((x.who + x.again).tmod n)) ∧ All (pxL P { x with again := x.again + 1 } b m n1 n2 ++ cs) w' := by
  have c22 : w.cell? ⟨P, 22, none⟩ = some (.int .i64 x.who) := by rw [cell_at h.px]; rfl
  have c24 : w.cell? ⟨P, 24, none⟩ = some (.int .i64 x.again) := by rw [cell_at h.px]; rfl
  have f1 := free_at h.px 24
  have A := hid (h.setBlk 24 (.int .i64 (x.again + 1)))
  have d22 : Hid ((w.setCell ⟨P, 24, none⟩ (.int .i64 (x.again + 1))).cell? ⟨P, 22, none⟩ = some (.int .i64 x.who)) := hid (by rw [cell_at A.out.1.2.1]; rfl)
  have d24 : Hid ((w.setCell ⟨P, 24, none⟩ (.int .i64 (x.again + 1))).cell? ⟨P, 24, none⟩ = some (.int .i64 (x.again + 1))) := hid (by rw [cell_at A.out.1.2.1]; rfl)
  have e1 : IntKind.i64.wrap (x.again + 1) = x.again + 1 := by rw [IntKind.wrap_i64]; omega
  have e2 : IntKind.i64.wrap (x.who + (x.again + 1)) = x.who + (x.again + 1) := by rw [IntKind.wrap_i64]; omega
  have e3 : IntKind.i64.wrap (x.who + (x.again + 1) - 1) = x.who + x.again := by rw [IntKind.wrap_i64]; omega
  have n0 : n ≠ 0 := by omega
  have n1 : n ≠ -1 := by omega
  clear h hn hw hw2 ha ha2
  go_enter Tryd.func34, Tryd.ntmps34
  go_upto_region 2 with fail
  generalize w.setCell ⟨P, 24, none⟩ (.int .i64 (x.again + 1)) = w1 at A d22 d24 ⊢
  clear c22 c24 f1
  have d22 := d22.out
  have d24 := d24.out
  go_region
  go_wp2
  go_ret
  exact ⟨rfl, A.out.drew⟩
end Go.Proofs.YteloaggebkbeeaaDoor

namespace Go.Proofs.YteloaggebkbeeaaDoor
open Go.RowKit
set_option linter.unusedVariables false

def Wt.due (t : Wt) : Bool := t.wts && decide (t.left = 1)
def Wt.tick (t : Wt) (n : Int) : Wt := if t.wts then (if t.left = 1 then { t with left := n } else { t with left := t.left - 1 }) else t
def Wt.now (t : Wt) (n m : Int) : Int := if t.due then min (2 * n) m else n
/-- Ticks that are left are in bounds. -/
def Wt.okL (t : Wt) : Prop := t.wts = true → 1 ≤ t.left ∧ t.left ≤ 1024

theorem tick33R {P : Nat} {x : Px} {b m n1 n2 : Int} {cs : List Comp} {w : World} (h : All (pxL P x b m n1 n2 ++ cs) w) (hl : x.rq.okL) (h1 : 1 ≤ n1) (h2 : n1 ≤ m) (h3 : m ≤ 1024) : Calls Tryd.prog 33 #[.pointer (some ⟨P, 4, none⟩)] w fun e w' => e = .returned (.bool x.rq.due) ∧ All (pxL P { x with rq := x.rq.tick n1 } b m (x.rq.now n1 m) n2 ++ cs) w' := by
  by_cases hw : x.rq.wts = true
  · by_cases hl1 : x.rq.left = 1
    · have ed : x.rq.due = true := by simp [Wt.due, hw, hl1]
      have en : x.rq.now n1 m = min (2 * n1) m := by simp [Wt.now, ed]
      have et : x.rq.tick n1 = { x.rq with left := n1 } := by simp [Wt.tick, hw, hl1]
      rw [ed, en, et]
      exact tickR_yes h hw hl1 h1 h2 h3
    · have hb := hl hw
      have ed : x.rq.due = false := by simp [Wt.due, hl1]
      have en : x.rq.now n1 m = n1 := by simp [Wt.now, ed]
      have et : x.rq.tick n1 = { x.rq with left := x.rq.left - 1 } := by simp [Wt.tick, hw, hl1]
      rw [ed, en, et]
      exact tickR_less h hw (by omega) hb.2
  · have hw : x.rq.wts = false := by simpa using hw
    have ed : x.rq.due = false := by simp [Wt.due, hw]
    have en : x.rq.now n1 m = n1 := by simp [Wt.now, ed]
    have et : x.rq.tick n1 = x.rq := by simp [Wt.tick, hw]
    rw [ed, en, et]
    refine (tickR_no h hw).mono ?_
    rintro e w' ⟨h1, rfl⟩
    exact ⟨h1, h⟩

theorem tick33Q {P : Nat} {x : Px} {b m n1 n2 : Int} {cs : List Comp} {w : World} (h : All (pxL P x b m n1 n2 ++ cs) w) (hl : x.qu.okL) (h1 : 1 ≤ n2) (h2 : n2 ≤ m) (h3 : m ≤ 1024) : Calls Tryd.prog 33 #[.pointer (some ⟨P, 13, none⟩)] w fun e w' => e = .returned (.bool x.qu.due) ∧ All (pxL P { x with qu := x.qu.tick n2 } b m n1 (x.qu.now n2 m) ++ cs) w' := by
  by_cases hw : x.qu.wts = true
  · by_cases hl1 : x.qu.left = 1
    · have ed : x.qu.due = true := by simp [Wt.due, hw, hl1]
      have en : x.qu.now n2 m = min (2 * n2) m := by simp [Wt.now, ed]
      have et : x.qu.tick n2 = { x.qu with left := n2 } := by simp [Wt.tick, hw, hl1]
      rw [ed, en, et]
      exact tickQ_yes h hw hl1 h1 h2 h3
    · have hb := hl hw
      have ed : x.qu.due = false := by simp [Wt.due, hl1]
      have en : x.qu.now n2 m = n2 := by simp [Wt.now, ed]
      have et : x.qu.tick n2 = { x.qu with left := x.qu.left - 1 } := by simp [Wt.tick, hw, hl1]
      rw [ed, en, et]
      exact tickQ_less h hw (by omega) hb.2
  · have hw : x.qu.wts = false := by simpa using hw
    have ed : x.qu.due = false := by simp [Wt.due, hw]
    have en : x.qu.now n2 m = n2 := by simp [Wt.now, ed]
    have et : x.qu.tick n2 = x.qu := by simp [Wt.tick, hw]
    rw [ed, en, et]
    refine (tickQ_no h hw).mono ?_
    rintro e w' ⟨h1, rfl⟩
    exact ⟨h1, h⟩

/-- The requests that are said again. -/
def again (x : Px) (k : Nat) : List Ms := (List.range k).map fun i : Nat => rqM x.id i x.rq
theorem again_len (x : Px) (k : Nat) : (again x k).length = k := by simp [again]
theorem again_succ (x : Px) (k : Nat) : again x (k + 1) = again x k ++ [rqM x.id k x.rq] := by simp [again, List.range_succ]
def sayR (x : Px) (N : Nat) : List Ms := if x.rq.due then again x N else []
def sayQ (x : Px) : List Ms := if x.qu.due then [asM x.id ((x.who + x.again).tmod x.n) x.least x.qu] else []
def Px.tick (x : Px) (n1 n2 : Int) : Px := { x with rq := x.rq.tick n1, qu := x.qu.tick n2, again := if x.qu.due then x.again + 1 else x.again }
theorem rqM_tick (f t n : Int) (x : Wt) : rqM f t (x.tick n) = rqM f t x := by
  unfold Wt.tick
  split
  · split <;> rfl
  · rfl
theorem asM_tick (f t l n : Int) (x : Wt) : asM f t l (x.tick n) = asM f t l x := by
  unfold Wt.tick
  split
  · split <;> rfl
  · rfl
end Go.Proofs.YteloaggebkbeeaaDoor

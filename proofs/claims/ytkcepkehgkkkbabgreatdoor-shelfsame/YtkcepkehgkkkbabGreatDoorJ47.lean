import Derived.Test.YtkcepkehgkkkbabGreatDoorJ46
namespace Go.Proofs.YtkcepkehgkkkbabGreatDoor
open Go.RowKit
set_option linter.unusedVariables false

/-- A row of one's own, whatever its elements' size. -/
def rowC (e : TypeId) (size : Nat) (v : Value) (n : Nat) (vs : List Value) : Comp := ⟨fun w => w.ownsRow 0 e size v n vs, v.ownBlock.toList⟩
theorem owns_keep {w w' : World} {e : TypeId} {size n : Nat} {v : Value} {vs : List Value} (h : w.ownsRow 0 e size v n vs) (hb : ∀ k ∈ v.ownBlock.toList, w'.heap[k]? = w.heap[k]?) : w'.ownsRow 0 e size v n vs :=
  ⟨h.1, by
    rcases h.2 with hn | ⟨g, cap, cur, rfl, hg, hgg, rest⟩
    · exact Or.inl hn
    · exact Or.inr ⟨g, cap, cur, rfl, hg, by rw [hb g (by simp [Value.ownBlock])]; exact hgg, rest⟩⟩
theorem rowC_good (e : TypeId) (size : Nat) (v : Value) (n : Nat) (vs : List Value) : (rowC e size v n vs).Good := fun w w' h hs hb => owns_keep h hb
theorem All.addRow0 {e : TypeId} {size : Nat} {cs : List Comp} {w : World} (h : All cs w) : All (rowC e size (.slice none 0 0) 0 [] :: cs) w :=
  ⟨⟨rowC_good _ _ _ _ _, ⟨by simp, Or.inl ⟨rfl, rfl⟩⟩, fun k hk => by simp [rowC, Value.ownBlock] at hk⟩, fun d hd k hk => by simp [rowC, Value.ownBlock] at hk, h⟩
theorem All.rowGrow {e : TypeId} {size n n' : Nat} {v v' : Value} {vs vs' : List Value} {cs : List Comp} {w w1 : World} {base : Nat} (h : All (rowC e size v n vs :: cs) w) (hown : w1.ownsRow base e size v' n' vs') (hg : w.grownBy w1 v.ownBlock) (hat : v'.ownBlock = v.ownBlock ∨ v'.ownBlock = some w.heap.size) : All (rowC e size v' n' vs' :: cs) w1 := by
  have ho' := owns_zero hown
  refine h.turn ((grown_fr hg).mono (fun k hk => by simpa [rowC] using hk)) (rowC_good _ _ _ _ _) ho' (fun k hk => ?_) (fun k hk => ?_)
  · have hk' : v'.ownBlock = some k := by simpa [rowC] using hk
    rcases hat with e1 | e1
    · exact Or.inl (by simp [rowC, ← e1, hk'])
    · rw [e1] at hk'; simp at hk'; exact Or.inr (by omega)
  · have hk' : v'.ownBlock = some k := by simpa [rowC] using hk
    exact (ho'.lt k hk').2

/-- An append, in a region that draws. -/
theorem step_append_run {P : Program} {w : World} {ops : Array Oper} {o : Oper} {a : Act} {K : Act → World → Prop} {Q : Exit → Act → World → Prop} {E : Prop} (hgd : o.guard = none) (s x : Operand) (t : TypeId)
    (ho : o.op = .call { callee := .builtin .append, args := #[s, x], argTypes := #[t, t] }) (v1 v2 v' : Value) (w' : World) (hs : a.eval s = v1) (hx : a.eval x = v2)
    (hr : (Builtin.append_ #[t, t] o.type #[v1, v2]).run P w = .ok v' w') (h : K (a.put o.dst v') w') :
    if Region.wanted o (yielded ops a.tmps) = true then Oper.wp P o a w K Q else E := by
  have hw : Region.wanted o (yielded ops a.tmps) = true := by simp [Region.wanted, hgd]
  rw [if_pos hw]
  unfold Oper.wp execOp
  simp only [ho, resolve, invoke, builtin, Sem.run_bind, Sem.run_pure, Result.andThen_ok, List.map_toArray, List.map_cons, List.map_nil, hs, hx, hr]
  exact h

/-- A queue that was told, with its lists. -/
structure TV where
  nm : ByteArray
  first : Int
  iv : Value
  items : List ByteArray
  gv : Value
  gs : List Grp
def TV.cells (x : TV) : List Value := [.string x.nm, .int .i64 x.first, x.iv, x.gv]
def TV.q (x : TV) : TQ := ⟨x.nm, x.first, x.items, x.gs⟩
def TV.ok (x : TV) : Prop := (∃ a c, x.iv = .slice a x.items.length c) ∧ ∃ a c, x.gv = .slice a x.gs.length c
def tvC (x : TV) : List Comp := [rowG x.gv x.gs, ownC 9 x.iv (txtV x.items)]
def flatT (l : List TV) : List Value := l.flatMap TV.cells
theorem flatT_len (l : List TV) : (flatT l).length = l.length * 4 := by
  induction l with
  | nil => rfl
  | cons a l ih => simp only [flatT, List.flatMap_cons, List.length_append, List.length_cons] at ih ⊢; rw [ih]; simp [TV.cells]; omega
theorem flatT_snoc (l : List TV) (x : TV) : flatT (l ++ [x]) = flatT l ++ x.cells := by simp [flatT]
theorem flatT_at : ∀ {l : List TV} {i : Nat} {x : TV}, l[i]? = some x → ∀ {j : Nat}, j < 4 → (flatT l)[i * 4 + j]? = x.cells[j]?
  | a :: l, 0, x, h, j, hj => by
    simp at h
    subst h
    rw [Nat.zero_mul, Nat.zero_add]
    exact List.getElem?_append_left (by simpa [TV.cells] using hj)
  | a :: l, i + 1, x, h, j, hj => by
    have ih := flatT_at (l := l) (i := i) (x := x) (by simpa using h) hj
    rw [← ih]
    show (a.cells ++ flatT l)[_]? = _
    rw [List.getElem?_append_right (by simp [TV.cells]; omega)]
    congr 1
    simp [TV.cells]
    omega
abbrev rowT (v : Value) (l : List TV) : Comp := rowC 78 4 v l.length (flatT l)
theorem Tryz.info78 : (Tryz.prog.info? 78).map (fun i => (i.zero, i.size, i.bytes)) = some (some (.agg #[.string ⟨#[]⟩, .int .i64 0, .slice none 0 0, .slice none 0 0]), 4, 72) := by kernel_rfl
theorem Tryz.und53 : Tryz.prog.underlying 53 = some (.slice 78) := by kernel_rfl
theorem appT {W : World} {K : Nat} {x : TV} (hx : x.ok) {v : Value} {l : List TV} {cs : List Comp} (A : All (rowT v l :: cs) W) (hK : W.heap[K]? = some (.cells x.cells.toArray 78 (0, 0))) (hl : l.length ≤ 100) :
    ∃ ao c w', (Builtin.append_ #[53, 53] 53 #[v, .slice (some ⟨K, 0, none⟩) 1 1]).run Tryz.prog W = .ok (.slice ao (l.length + 1) c) w' ∧ All (rowT (.slice ao (l.length + 1) c) (l ++ [x]) :: cs) w' := by
  obtain ⟨i1, hi1, hz0, hz1, hz2⟩ := info_parts Tryz.info78
  obtain ⟨⟨a1, c1, e1⟩, a2, c2, e2⟩ := hx
  obtain ⟨v', w', hr, h2, h3, h4, h5⟩ := run_append_own_at (P := Tryz.prog) W 0 53 53 78 i1 (.agg #[.string ⟨#[]⟩, .int .i64 0, .slice none 0 0, .slice none 0 0]) 4 72 Tryz.und53 hi1 hz0 hz1 hz2 rfl (by decide) v l.length (flatT l) A.1.2.1 ⟨K, 0, none⟩ 1 1 x.cells rfl
    (fun j u hu => by rw [Addr.add_lit, Nat.zero_add, cell_at hK]; exact (List.getElem?_toArray ..).trans hu) (fun u hu => by
      simp only [TV.cells, List.mem_cons, List.not_mem_nil, or_false] at hu
      rcases hu with rfl | rfl | rfl | rfl
      · rfl
      · rfl
      · rw [e1]; rfl
      · rw [e2]; rfl) (by unfold maxLen; omega) (by omega) (by omega)
  obtain ⟨ao, c, rfl⟩ := owns_form h2
  exact ⟨ao, c, w', hr, A.rowGrow (vs' := flatT (l ++ [x])) (n' := (l ++ [x]).length) (by rw [flatT_snoc, List.length_append]; exact h2) h3 h5⟩
theorem grps_of {W : World} {v : Value} {gs : List Grp} (h : W.ownsRow 0 111 2 v gs.length (cellsG gs)) : GrpsAt W v gs := by
  rcases h.2 with ⟨rfl, e⟩ | ⟨g, cap, cur, rfl, _, hg, hn, hm, hcs, ht⟩
  · obtain rfl := List.length_eq_zero_iff.1 e
    exact ⟨none, 0, rfl, fun i x hx => by simp at hx⟩
  · refine ⟨_, cap, rfl, fun i x hx => ?_⟩
    have hi := (List.getElem?_eq_some_iff.1 hx).1
    have hat : ∀ (l : List Grp) (i : Nat) (x : Grp), l[i]? = some x → (cellsG l)[i * 2]? = some (encStr x.1) ∧ (cellsG l)[i * 2 + 1]? = some (.int .i64 x.2) := by
      intro l
      induction l with
      | nil => intro i x h; simp at h
      | cons a l ih =>
        intro i x h
        cases i with
        | zero => simp at h; subst h; exact ⟨rfl, rfl⟩
        | succ i =>
          have := ih i x (by simpa using h)
          rw [show (i + 1) * 2 = i * 2 + 1 + 1 by omega]
          exact this
    obtain ⟨q0, q1⟩ := hat gs i x hx
    rw [← ht] at q0 q1
    rw [List.getElem?_take, if_pos (by omega)] at q0 q1
    refine ⟨g, 0, rfl, (Array.getElem?_eq_some_iff.1 hg).1, ?_, ?_⟩
    · rw [Nat.zero_add, cell_at hg, ← Array.getElem?_toList, q0]
    · rw [Nat.zero_add, cell_at hg, ← Array.getElem?_toList, q1]
/-- What was told is read. -/
theorem told_reads {W : World} {v : Value} {l : List TV} (hok : ∀ x ∈ l, x.ok) (A : All (rowT v l :: l.flatMap tvC) W) : TQsAt W v (l.map TV.q) := by
  rcases A.1.2.1.2 with ⟨rfl, e⟩ | ⟨g, cap, cur, rfl, _, hg, hn, hm, hcs, ht⟩
  · obtain rfl := List.length_eq_zero_iff.1 e
    exact ⟨none, 0, rfl, fun i x hx => by simp at hx⟩
  · refine ⟨_, cap, by rw [List.length_map], fun i x hx => ?_⟩
    rw [List.getElem?_map] at hx
    obtain ⟨y, hy, rfl⟩ := Option.map_eq_some_iff.1 hx
    have hi := (List.getElem?_eq_some_iff.1 hy).1
    have hm := List.mem_of_getElem? hy
    have hc : ∀ j u, j < 4 → y.cells[j]? = some u → W.cell? ⟨g, 0 + i * 4 + j, none⟩ = some u := fun j u hj hu => by
      rw [Nat.zero_add, cell_at hg, ← Array.getElem?_toList, ← hu, ← flatT_at hy hj, ← ht, List.getElem?_take, if_pos (by omega)]
    obtain ⟨⟨a1, c1, e1⟩, a2, c2, e2⟩ := hok y hm
    refine ⟨g, 0, y.iv, y.gv, rfl, (Array.getElem?_eq_some_iff.1 hg).1, hc 0 _ (by omega) rfl, hc 1 _ (by omega) rfl, hc 2 _ (by omega) rfl, hc 3 _ (by omega) rfl, ?_, ?_⟩
    · show Txts W y.iv y.items
      rw [e1]
      exact txts_of (e := 9) A.tail (ao := a1) (n := y.items.length) (c := c1) (l := y.items) (by
        rw [← e1]
        exact List.mem_flatMap.2 ⟨y, hm, by simp [tvC]⟩)
    · exact grps_of (A.tail.mem (c := rowG y.gv y.gs) (List.mem_flatMap.2 ⟨y, hm, by simp [tvC]⟩)).2.1
def tq (q : Qs) : TQ := ⟨q.nm, (q.first : Int), q.items, grS q.D⟩
def tqN (S : St) (nm : ByteArray) : TQ := match S[(findN (stV S) nm).toNat]? with
  | some (some q) => tq q
  | _ => ⟨nm, 0, [], []⟩
def toldL (S : St) : List TQ := (nmsS (stV S)).map (tqN S)
theorem mem_nmsS {N : Nat} {S : St} (hS : OkS N S) {nm : ByteArray} (h : nm ∈ nmsS (stV S)) : ∃ (i : Nat) (q : Qs), S[i]? = some (some q) ∧ q.nm = nm ∧ findN (stV S) nm = (i : Int) := by
  unfold nmsS at h
  obtain ⟨x, hx, rfl⟩ := List.mem_map.1 h
  have hx : x ∈ rawT (nms (stV S)) := by simpa using hx
  obtain ⟨t, ht, rfl⟩ := List.mem_map.1 hx
  have e : strB t.data.toList = t := by cases t; simp [strB]
  rw [e]
  unfold nms at ht
  obtain ⟨h1, h2⟩ := List.mem_filter.1 ht
  obtain ⟨v, hv, rfl⟩ := List.mem_map.1 h1
  obtain ⟨s, hs, rfl⟩ := List.mem_map.1 hv
  cases s with
  | none => simp [slV] at h2
  | some q =>
    obtain ⟨i, hi, hq⟩ := List.getElem_of_mem hs
    have hq' : S[i]? = some (some q) := by rw [List.getElem?_eq_getElem hi, hq]
    have h0 := (hS.each i q hq').nm0
    rcases find_cases hS q.nm h0 with ⟨_, hno⟩ | ⟨j, p, hf, hj, hn⟩
    · exact absurd rfl (hno i q hq')
    · have := hS.one i j q p hq' hj hn.symm
      subst this
      exact ⟨i, q, hq', rfl, hf⟩
theorem tqN_at {S : St} {i : Nat} {q : Qs} {nm : ByteArray} (hf : findN (stV S) nm = (i : Int)) (hq : S[i]? = some (some q)) : tqN S nm = tq q := by
  unfold tqN
  rw [hf, Int.toNat_natCast, hq]
/-- Shelves that hold the same tell the same. -/
theorem toldL_alike {N N' : Nat} {S S' : St} (hS : OkS N S) (hS' : OkS N' S') (E : EqS S S') {P P' : Nat} {cs cs' : List Comp} {w w' : World} (h : All (shL P S ++ cs) w) (h' : All (shL P' S' ++ cs') w') : toldL S' = toldL S := by
  unfold toldL
  rw [E.nms]
  refine List.map_congr_left (fun nm hn => ?_)
  obtain ⟨i, q, hq, hnm, hf⟩ := mem_nmsS hS hn
  obtain ⟨q', hq', EQ⟩ := E.some_ hq
  rw [tqN_at hf hq, tqN_at (by rw [E.find]; exact hf) hq']
  have e := grS_alike EQ ((h.shOut hq).tail.tail.1.2.1) ((h'.shOut hq').tail.tail.1.2.1)
  unfold tq
  rw [EQ.nm, EQ.first, EQ.items, e]
theorem slB_alike {N N' : Nat} {S S' : St} (hS : OkS N S) (hS' : OkS N' S') (E : EqS S S') {P P' : Nat} {cs cs' : List Comp} {w w' : World} (h : All (shL P S ++ cs) w) (h' : All (shL P' S' ++ cs') w') : S'.map slB = S.map slB := by
  apply List.ext_getElem?
  intro i
  rw [List.getElem?_map, List.getElem?_map]
  cases hs : S[i]? with
  | none =>
    have : S'[i]? = none := List.getElem?_eq_none (by rw [E.len]; exact List.getElem?_eq_none_iff.1 hs)
    rw [this]
  | some a =>
    obtain ⟨b, h1, h2⟩ := E.at_ i a hs
    rw [h1]
    cases a with
    | none =>
      cases b with
      | none => rfl
      | some q => exact h2.elim
    | some q =>
      cases b with
      | none => exact h2.elim
      | some q' =>
        have EQ : EqQ q q' := h2
        have e := grS_alike EQ ((h.shOut hs).tail.tail.1.2.1) ((h'.shOut h1).tail.tail.1.2.1)
        simp only [Option.map_some, slB]
        rw [EQ.nm, EQ.first, EQ.items, e]
end Go.Proofs.YtkcepkehgkkkbabGreatDoor

namespace Go.Proofs.YtkcepkehgkkkbabGreatDoor
open Go.RowKit
set_option linter.unusedVariables false

theorem permQ {r a b : Comp} {ts : List Comp} {X : List Comp} : (a :: b :: r :: (ts ++ X)).Perm (r :: ((ts ++ [a, b]) ++ X)) := by
  have p1 : (a :: b :: r :: (ts ++ X)).Perm (r :: a :: b :: (ts ++ X)) := List.perm_middle (l₁ := [a, b])
  refine p1.trans (List.Perm.cons _ ?_)
  have p2 := (List.perm_append_comm (l₁ := [a, b]) (l₂ := ts)).append_right X
  simpa using p2

set_option maxHeartbeats 3200000 in
set_option maxRecDepth 1000000 in
/-- Queues, at any state. -/
theorem Queues_st {N P : Nat} {S : St} (hS : OkS N S) {cs : List Comp} {w : World} (h : All (shL P S ++ cs) w) :
    Calls Tryz.prog 14 #[.pointer (some ⟨P, 0, none⟩)] w fun e w' => ∃ so sc X, e = .returned (.slice so (toldL S).length sc) ∧ All (X ++ (shL P S ++ cs)) w' ∧ ∀ W, All X W → TQsAt W (.slice so (toldL S).length sc) (toldL S) := by
  have h8 : (stV S).length = 8 := by rw [stV_len]; exact hS.len
  have C38 := hid (names_any (P := P) (qs := stV S) (cs := S.flatMap slC ++ cs) (by simpa [shL] using h) h8)
  have HS := hid hS
  have hnl : (nmsS (stV S)).length ≤ 8 := by rw [nmsS_len]; have := nms_len (stV S); omega
  have HM := hid (fun nm (hn : nm ∈ nmsS (stV S)) => mem_nmsS hS hn)
  have HTL : Hid ((toldL S).length = (nmsS (stV S)).length) := hid (by simp [toldL])
  have HTA : Hid (∀ (k : Nat) (nm : ByteArray), (nmsS (stV S))[k]? = some nm → (toldL S)[k]? = some (tqN S nm)) := hid (by intro k nm hk; unfold toldL; rw [List.getElem?_map, hk]; rfl)
  rw [HTL.out]
  clear h hS
  generalize hL : nmsS (stV S) = L at *
  generalize hn : L.length = n at *
  have HN := hid hn
  clear hL hn
  go_enter Tryz.func14, Tryz.ntmps14
  go_wp2_with fail
  refine C38.out.mono ?_
  rintro e w1 ⟨no, nc, rfl, A1⟩
  have A1 : Hid (All (rowT (.slice none 0 0) [] :: (([] : List TV).flatMap tvC ++ (ownC 9 (.slice no n nc) (txtV L) :: (shL P S ++ cs)))) w1) := hid (by
    have a1 : All (ownC 9 (.slice no n nc) (txtV L) :: (shL P S ++ cs)) w1 := by simpa [shL] using A1
    exact a1.addRow0 (e := 78) (size := 4))
  clear C38
  go_wp2
  go_loopw [3, 9] (fun qv iv wr => ∃ (k : Nat) (so : Option Addr) (sc : Nat) (ts : List TV), k ≤ n ∧ qv = .slice so k sc ∧ iv = .int .i64 (k : Int) ∧ Hid (ts.length = k) ∧ Hid (ts.map TV.q = (toldL S).take k) ∧ Hid (∀ x ∈ ts, x.ok) ∧ Hid (All (rowT (.slice so k sc) ts :: (ts.flatMap tvC ++ (ownC 9 (.slice no n nc) (txtV L) :: (shL P S ++ cs)))) wr)) (fun _ iv _ => n - (intOf iv).toNat)
  case atStart => exact ⟨0, none, 0, [], by omega, rfl, rfl, hid rfl, hid (by simp), hid (fun x hx => by cases hx), A1⟩
  case round =>
    clear A1
    obtain ⟨k, so, sc, ts, hk, rfl, rfl, TL, TQ', TO, AR⟩ := hrel
    by_cases hlt : k < n
    · obtain ⟨nm, hnm⟩ : ∃ nm, Hid (L[k]? = some nm) := ⟨_, hid (List.getElem?_eq_getElem (by rw [HN.out]; exact hlt))⟩
      obtain ⟨i, q, hq, hqn, hf⟩ := HM.out nm (List.mem_of_getElem? hnm.out)
      subst hqn
      have hq := hid hq
      have hf := hid hf
      have hi8 : i < 8 := by have := (List.getElem?_eq_some_iff.1 hq.out).1; rw [HS.out.len] at this; exact this
      -- the name
      have hrow : wr.ownsRow 0 9 1 (.slice no n nc) (txtV L).length (txtV L) := (AR.out.mem (c := ownC 9 (.slice no n nc) (txtV L)) (by simp)).2.1
      obtain ⟨gn, en, cn, _⟩ := owns_at hrow (k := k) (u := .string q.nm) (by simp [txtV, hnm.out])
      subst en
      have l1 : decide ((k : Int) < (n : Int)) = true := decide_eq_true (by omega)
      have l2 : (k : Int) < (n : Int) := by omega
      have l3 : (0 : Int) ≤ (k : Int) := by omega
      have hb : ∀ W, All (rowT (.slice so k sc) ts :: (ts.flatMap tvC ++ (ownC 9 (.slice (some ⟨gn, 0, none⟩) n nc) (txtV L) :: (shL P S ++ cs)))) W → W.heap[P]? = some (.cells (flat (stV S)).toArray 74 (0, 0)) := fun W a => a.blk (by simp [shL])
      have C23 := hid (find_any (hb _ AR.out.drew) h8 q.nm)
      rw [hf.out] at C23
      have A2 : Hid (All (shL P S ++ (rowT (.slice so k sc) ts :: (ts.flatMap tvC ++ (ownC 9 (.slice (some ⟨gn, 0, none⟩) n nc) (txtV L) :: cs)))) wr.drew) := hid (AR.out.drew.perm (by
        have p := List.perm_append_comm_assoc (rowT (.slice so k sc) ts :: (ts.flatMap tvC ++ [ownC 9 (.slice (some ⟨gn, 0, none⟩) n nc) (txtV L)])) (shL P S) cs
        simpa using p))
      have C39 := hid (told_st hq.out HS.out A2.out)
      have HA : Hid (∀ (W : World) (sa : Option Addr) (sb : Nat) (ga : Option Addr) (gb : Nat), All (rowG (.slice ga (grS q.D).length gb) (grS q.D) :: ownC 9 (.slice sa q.items.length sb) (txtV q.items) :: (shL P S ++ (rowT (.slice so k sc) ts :: (ts.flatMap tvC ++ (ownC 9 (.slice (some ⟨gn, 0, none⟩) n nc) (txtV L) :: cs))))) W →
          ∃ so' sc' W', (Builtin.append_ #[53, 53] 53 #[.slice so k sc, .slice (some ⟨W.heap.size, 0, none⟩) 1 1]).run Tryz.prog (W.alloc (.cells #[.string q.nm, .int .i64 (q.first : Int), .slice sa q.items.length sb, .slice ga (grS q.D).length gb] 78)) = .ok (.slice so' (k + 1) sc') W' ∧ ∃ ts' : List TV, ts'.length = k + 1 ∧ ts'.map TV.q = (toldL S).take (k + 1) ∧ (∀ x ∈ ts', x.ok) ∧ All (rowT (.slice so' (k + 1) sc') ts' :: (ts'.flatMap tvC ++ (ownC 9 (.slice (some ⟨gn, 0, none⟩) n nc) (txtV L) :: (shL P S ++ cs)))) W') := hid (fun W sa sb ga gb a => by
        have hok : (⟨q.nm, (q.first : Int), .slice sa q.items.length sb, q.items, .slice ga (grS q.D).length gb, grS q.D⟩ : TV).ok := ⟨⟨_, _, rfl⟩, _, _, rfl⟩
        have a1 : All (rowT (.slice so k sc) ts :: (((ts.flatMap tvC) ++ [rowG (.slice ga (grS q.D).length gb) (grS q.D), ownC 9 (.slice sa q.items.length sb) (txtV q.items)]) ++ (ownC 9 (.slice (some ⟨gn, 0, none⟩) n nc) (txtV L) :: (shL P S ++ cs)))) W := by
          refine a.perm ?_
          refine List.Perm.trans ?_ permQ
          refine List.Perm.cons _ (List.Perm.cons _ ?_)
          have p := List.perm_append_comm_assoc (shL P S) (rowT (.slice so k sc) ts :: (ts.flatMap tvC ++ [ownC 9 (.slice (some ⟨gn, 0, none⟩) n nc) (txtV L)])) cs
          simpa using p
        have a2 := (a1.alloc (.cells (TV.cells ⟨q.nm, (q.first : Int), .slice sa q.items.length sb, q.items, .slice ga (grS q.D).length gb, grS q.D⟩).toArray 78))
        obtain ⟨so', sc', W', hr, a3⟩ := appT hok a2 (heap_alloc_new W _) (by rw [TL.out]; omega)
        rw [TL.out] at hr a3
        refine ⟨so', sc', W', hr, ts ++ [⟨q.nm, (q.first : Int), .slice sa q.items.length sb, q.items, .slice ga (grS q.D).length gb, grS q.D⟩], by simp [TL.out], ?_, ?_, ?_⟩
        · have hk2 : (toldL S)[k]? = some (tq q) := by rw [HTA.out k q.nm hnm.out, tqN_at hf.out hq.out]
          have hk3 : k < (toldL S).length := (List.getElem?_eq_some_iff.1 hk2).1
          rw [List.map_append, TQ'.out, List.take_succ_eq_append_getElem hk3]
          congr 1
          rw [List.getElem?_eq_getElem hk3] at hk2
          simp only [List.map_cons, List.map_nil]
          rw [Option.some.inj hk2]
          rfl
        · intro x hx
          rcases List.mem_append.1 hx with h1 | h1
          · exact TO.out x h1
          · simp at h1; subst h1; exact hok
        · have : (ts ++ [(⟨q.nm, (q.first : Int), .slice sa q.items.length sb, q.items, .slice ga (grS q.D).length gb, grS q.D⟩ : TV)]).flatMap tvC = ts.flatMap tvC ++ [rowG (.slice ga (grS q.D).length gb) (grS q.D), ownC 9 (.slice sa q.items.length sb) (txtV q.items)] := by simp [tvC]
          rw [this]
          exact a3)
      clear AR A2 hb
      have i1 : (0 : Int) ≤ (i : Int) := by omega
      have i2 : (i : Int) < 8 := by omega
      go_upto_region 5 with fail
      go_region_held3 (fun _ => True) (trivial) (first
        | (go_at_call 23; refine C23.out.mono ?_; rintro e w2 ⟨rfl, hw2⟩; have HW2 := hid hw2; clear hw2)
        | (go_at_call 39; rw [HW2.out]; refine C39.out.mono ?_; rintro e w3 ⟨sa, sb, ga, gb, rfl, A3⟩; obtain ⟨so', sc', w5, hr, ts', t1, t2, t3, A5⟩ := HA.out w3 sa sb ga gb A3; have HR := hid hr; have A5 := hid A5; have T1 := hid t1; have T2 := hid t2; have T3 := hid t3; clear hr t1 t2 t3 A3)
        | (refine step_append_run (by rfl) (.tmp 13) (.tmp 22) 53 (by rfl) _ _ _ _ (by rfl) (by rfl) HR.out ?_))
      go_wp2
      go_roundw
      case rel => exact ⟨k + 1, so', sc', ts', by omega, rfl, by go_num, T1, T2, T3, A5⟩
      case measure => simp [intOf]; omega
    · obtain rfl : k = n := by omega
      have l1 : decide ((k : Int) < (k : Int)) = false := decide_eq_false (by omega)
      go_wp2
      go_ret
      refine ⟨so, sc, rowT (.slice so k sc) ts :: ts.flatMap tvC, rfl, ?_, fun W a => ?_⟩
      · have a := AR.out
        have p : (rowT (.slice so k sc) ts :: (ts.flatMap tvC ++ (ownC 9 (.slice no k nc) (txtV L) :: (shL P S ++ cs)))).Perm (ownC 9 (.slice no k nc) (txtV L) :: ((rowT (.slice so k sc) ts :: ts.flatMap tvC) ++ (shL P S ++ cs))) := List.perm_middle (l₁ := rowT (.slice so k sc) ts :: ts.flatMap tvC)
        exact (a.perm p).tail
      · have := told_reads TO.out a
        rw [TQ'.out, List.take_of_length_le (by rw [HTL.out]; exact Nat.le_refl _)] at this
        exact this
end Go.Proofs.YtkcepkehgkkkbabGreatDoor

namespace Go.Proofs.YtkcepkehgkkkbabGreatDoor
open Go.RowKit
set_option linter.unusedVariables false

/-- What Do does, whatever the op is. -/
def DD (S : St) (o : Ov) (S' : St) (c x : Int) (items : List ByteArray) (j er : Int) : Prop :=
  (er = 0 ∧ chkA o.k o.nm.size o.tx.size o.n o.m = 0 ∧ Deed S o.nm o.tx o.n o.m o.k S' c x items j) ∨ (er = chkA o.k o.nm.size o.tx.size o.n o.m ∧ chkA o.k o.nm.size o.tx.size o.n o.m ≠ 0 ∧ S' = S ∧ c = 0 ∧ x = 0 ∧ items = [] ∧ j = 0)
theorem OkS.upTo {N : Nat} {S : St} (hS : OkS N S) (M : Nat) (h : N ≤ M) : OkS M S := ⟨hS.len, fun i q hq => by
    have O := hS.each i q hq
    exact ⟨O.nm0, O.nm16, O.len, O.small, O.fin, O.gs, O.gk, Nat.le_trans O.cn h⟩, hS.one⟩
theorem deed_few {N : Nat} {S S' : St} (hS : OkS N S) {nm tx : ByteArray} {n m k c x j : Int} {items : List ByteArray} (d : Deed S nm tx n m k S' c x items j) : items.length ≤ 32 := by
  cases d with
  | take i q d item h hs hn hd hh => simp
  | read i q d h hs hn hd hl =>
    have := (hS.each i q hs).len
    simp only [List.length_take, List.length_drop]
    omega
  | list =>
    rw [nmsS_len]
    have := nms_len (stV S)
    rw [stV_len, hS.len] at this
    omega
  | _ => simp
theorem DD.ok {N : Nat} {S S' : St} {o : Ov} {c x j er : Int} {items : List ByteArray} (hS : OkS N S) (hT : ∀ (i : Nat) (q : Qs), S[i]? = some (some q) → Maps.Tidy q.D) (d : DD S o S' c x items j er) : OkS (N + 1) S' ∧ items.length ≤ 32 := by
  rcases d with ⟨_, hk, d⟩ | ⟨_, _, rfl, _, _, rfl, _⟩
  · exact ⟨deed_ok hS hT hk d, deed_few hS d⟩
  · exact ⟨hS.upTo _ (by omega), by simp⟩
theorem DD.alike {N N2 : Nat} {S S2 S' S2' : St} {o : Ov} {c x j er c2 x2 j2 er2 : Int} {items items2 : List ByteArray} (E : EqS S S2) (hT : ∀ (i : Nat) (q : Qs), S[i]? = some (some q) → Maps.Tidy q.D) (hT2 : ∀ (i : Nat) (q : Qs), S2[i]? = some (some q) → Maps.Tidy q.D)
    (d : DD S o S' c x items j er) (d2 : DD S2 o S2' c2 x2 items2 j2 er2) : c2 = c ∧ x2 = x ∧ items2 = items ∧ j2 = j ∧ er2 = er ∧ EqS S' S2' := by
  rcases d with ⟨e1, hk, d⟩ | ⟨e1, hk, r1, r2, r3, r4, r5⟩
  · rcases d2 with ⟨e2, _, d2⟩ | ⟨_, hk2, _⟩
    · obtain ⟨h1, h2, h3, h4, h5⟩ := deed_alike E hT hT2 rfl (chk_small hk).2.1 d d2
      exact ⟨h1, h2, h3, h4, by rw [e1, e2], h5⟩
    · exact absurd hk hk2
  · rcases d2 with ⟨_, hk2, _⟩ | ⟨e2, _, q1, q2, q3, q4, q5⟩
    · exact absurd hk2 hk
    · exact ⟨by rw [r2, q2], by rw [r3, q3], by rw [r4, q4], by rw [r5, q5], by rw [e1, e2], by rw [r1, q1]; exact E⟩
/-- Do, at any state, of any op. -/
theorem Do_all {N P : Nat} {S : St} (hS : OkS N S) (hN : N < 1152921504606846976) {cs : List Comp} {w : World} (ht : ∀ w', All (shL P S ++ cs) w' → Tab w') (o : Ov) (h : All (shL P S ++ cs) w) :
    Calls Tryz.prog 17 #[.pointer (some ⟨P, 0, none⟩), opV o.k o.nm o.tx o.n o.m] w fun e w' => ∃ S' c x items j er so sc, e = .returned (.tuple #[resV c x (.slice so (List.length items) sc), .int .i64 j, .int .i64 er]) ∧ DD S o S' c x items j er ∧ OkS (N + 1) S' ∧ items.length ≤ 32 ∧ All (shL P S' ++ (ownC 9 (.slice so items.length sc) (txtV items) :: cs)) w' := by
  by_cases hk : chkA o.k o.nm.size o.tx.size o.n o.m = 0
  · refine (Do_any hS hN ht hk h).mono ?_
    rintro e w' ⟨S', c, x, items, j, so, sc, rfl, d, A⟩
    have dd : DD S o S' c x items j 0 := Or.inl ⟨rfl, hk, d⟩
    obtain ⟨h1, h2⟩ := dd.ok hS (tidy_of h)
    exact ⟨S', c, x, items, j, 0, so, sc, rfl, dd, h1, h2, A⟩
  · refine (Do_bad (ht _ h) hk h).mono ?_
    rintro e w' ⟨rfl, A⟩
    refine ⟨S, 0, 0, [], 0, _, none, 0, rfl, Or.inr ⟨rfl, hk, rfl, rfl, rfl, rfl, rfl⟩, hS.upTo _ (by omega), by simp, ?_⟩
    have a := A.addNil (e := 9)
    exact a.perm (List.perm_middle (l₁ := shL P S)).symm
theorem rot2 {X Y Z : List Comp} : (X ++ (Y ++ Z)).Perm (Y ++ (X ++ Z)) := List.perm_append_comm_assoc _ _ _
end Go.Proofs.YtkcepkehgkkkbabGreatDoor

import Derived.Test.YtaomhahmpbfjhaaFrame
namespace Go.Proofs.Ytaomhahmpbfjhaa
open Go.RowKit Go.Shelf Go.Sort
set_option linter.unusedVariables false

theorem run_store_func (P : Program) (w : World) (a : Addr) (m : Mode) (f : Fn) (x y : Array Value) : (store a (.func f x y) m).run P w = stored P w a (.func f x y) m := run_store P w a _ m rfl
attribute [local go_sem] run_store_func Oper.semAt_some

/-- A book, and the document's beside it. -/
def Pair (Q0 : Pool) (g R n : Nat) (rest : List Comp) (S : Sheets) (w : World) : Prop :=
  ∃ Q lv ps N v rs, All (poolC Q :: blkC g (bookL n lv ps) 70 :: (refL R v rs ++ rest)) w ∧ Bk Q n lv ps N S ∧ RS n rs S ∧ ∀ x ∈ Q0, x ∈ Q
/-- The book is ahead. -/
def PairM (Q0 : Pool) (g R n : Nat) (rest : List Comp) (S S2 : Sheets) (w : World) : Prop :=
  ∃ Q lv ps N v rs, All (poolC Q :: blkC g (bookL n lv ps) 70 :: (refL R v rs ++ rest)) w ∧ Bk Q n lv ps N S2 ∧ RS n rs S ∧ ∀ x ∈ Q0, x ∈ Q

theorem Pair.putX {Q0 : Pool} {g R n : Nat} {rest : List Comp} {S : Sheets} {w : World} {num at_ : Int} {s : Value} {l : List UInt8} (h : Pair Q0 g R n rest S w) (hs : Reads w s l) :
    Calls Try.prog 12 #[.pointer (some ⟨g, 0, none⟩), .int .i64 num, .int .i64 at_, s] w fun e w' => e = .returned (.int .i64 (putE n S num at_ l)) ∧ PairM Q0 g R n rest S (putS n S num at_ l) w' := by
  obtain ⟨Q, lv, ps, N, v, rs, A, B, C, D⟩ := h
  refine (Put_all A B hs).mono ?_
  rintro e w' ⟨rfl, Q', lv', ps', N', A', B', hS⟩
  exact ⟨rfl, Q', lv', ps', N', v, rs, A', B', C, fun x hx => hS x (D x hx)⟩

theorem PairM.putY {Q0 : Pool} {g R n : Nat} {rest : List Comp} {S S2 : Sheets} {w : World} {num at_ : Int} {s : Value} {l : List UInt8} (h : PairM Q0 g R n rest S S2 w) (h2 : S2 = putS n S num at_ l) (hcap : ∀ i, (S i).1 ≤ 1099511627776 ∧ (S i).2.length ≤ 2304) (hs : Reads w s l) :
    Calls Try.prog 13 #[.pointer (some ⟨R, 0, none⟩), .int .i64 num, .int .i64 at_, s] w fun e w' => e = .returned (.int .i64 (putE n S num at_ l)) ∧ Pair Q0 g R n rest S2 w' := by
  obtain ⟨Q, lv, ps, N, v, rs, A, B, C, D⟩ := h
  have hn : n ≤ 64 := Nat.le_trans B.nlv B.lv64
  have A1 : All (refL R v rs ++ (poolC Q :: blkC g (bookL n lv ps) 70 :: rest)) w := by
    refine A.perm ?_
    have : (poolC Q :: blkC g (bookL n lv ps) 70 :: (refL R v rs ++ rest)).Perm (refL R v rs ++ (poolC Q :: blkC g (bookL n lv ps) 70 :: rest)) :=
      (List.Perm.cons _ List.perm_middle.symm).trans List.perm_middle.symm
    exact this
  refine (rPut_all (cs := poolC Q :: blkC g (bookL n lv ps) 70 :: rest) ⟨v, rs, A1, C⟩ hn hcap hs).mono ?_
  rintro e w' ⟨rfl, v', rs', A', C'⟩
  refine ⟨rfl, Q, lv, ps, N, v', rs', ?_, B, by rw [h2]; exact C', D⟩
  refine A'.perm ?_
  exact List.perm_middle.trans (.cons _ List.perm_middle)

theorem Pair.cap {Q0 : Pool} {g R n : Nat} {rest : List Comp} {S : Sheets} {w : World} (h : Pair Q0 g R n rest S w) : ∀ i, (S i).1 ≤ 1099511627776 ∧ (S i).2.length ≤ 2304 := by
  obtain ⟨Q, lv, ps, N, v, rs, A, B, C, D⟩ := h
  exact B.cap
theorem Pair.later {Q0 : Pool} {g R n : Nat} {rest : List Comp} {S : Sheets} {w w' : World} (h : Pair Q0 g R n rest S w) (hb : Below w.heap.size w w') : Pair Q0 g R n rest S w' := by
  obtain ⟨Q, lv, ps, N, v, rs, A, B, C, D⟩ := h
  exact ⟨Q, lv, ps, N, v, rs, A.later hb, B, C, D⟩
theorem Pair.rest {Q0 : Pool} {g R n : Nat} {rest : List Comp} {S : Sheets} {w : World} (h : Pair Q0 g R n rest S w) : All rest w := by
  obtain ⟨Q, lv, ps, N, v, rs, A, B, C, D⟩ := h
  exact A.2.2.2.2.rest
theorem PairM.rest {Q0 : Pool} {g R n : Nat} {rest : List Comp} {S S2 : Sheets} {w : World} (h : PairM Q0 g R n rest S S2 w) : All rest w := by
  obtain ⟨Q, lv, ps, N, v, rs, A, B, C, D⟩ := h
  exact A.2.2.2.2.rest
theorem Pair.add {Q0 : Pool} {g R n : Nat} {rest : List Comp} {S : Sheets} {w : World} (h : Pair Q0 g R n rest S w) (vs : List Value) (t : TypeId) : Pair Q0 g R n (blkC w.heap.size vs t :: rest) S (w.alloc (.cells vs.toArray t)) := by
  obtain ⟨Q, lv, ps, N, v, rs, A, B, C, D⟩ := h
  refine ⟨Q, lv, ps, N, v, rs, (A.addBlk vs t).perm ?_, B, C, D⟩
  refine (List.Perm.swap _ _ _).trans (.cons _ ((List.Perm.swap _ _ _).trans (.cons _ ?_)))
  exact List.perm_middle.symm
theorem Pair.drop {Q0 : Pool} {g R n : Nat} {c : Comp} {rest : List Comp} {S : Sheets} {w : World} (h : Pair Q0 g R n (c :: rest) S w) : Pair Q0 g R n rest S w := by
  obtain ⟨Q, lv, ps, N, v, rs, A, B, C, D⟩ := h
  refine ⟨Q, lv, ps, N, v, rs, A.sublist (.cons_cons _ (.cons_cons _ ?_)), B, C, D⟩
  exact List.Sublist.append (.refl _) (.cons _ (.refl _))

/-- What holds of the operations of a comparison of two Puts that have come. -/
def InvP (pre suf : List Value) (vg vR vn va vd a2 a3 a4 : Value) (E : Int) (W : World) (MID FIN : World → Prop) (G : Nat → Bool) (ac : Act) (w : World) : Prop :=
  ∃ t0 t1 t2 t3 t4 t5 t6 t7 t8 t9 t10 t11 t12 t13 t14 t15 t16 : Value, ac = { tmps := (pre ++ [t0, t1, t2, t3, t4, t5, t6, t7, t8, t9, t10, t11, t12, t13, t14, t15, t16] ++ suf).toArray, defers := [] } ∧ (G 0 = true → t0 = vg) ∧ (G 1 = true → t1 = a2) ∧ (G 2 = true → t2 = vn) ∧ (G 3 = true → t3 = a3) ∧ (G 4 = true → t4 = va) ∧ (G 5 = true → t5 = a4) ∧ (G 6 = true → t6 = vd) ∧ (G 7 = true → t7 = .int .i64 E) ∧ (G 8 = true → t8 = vR) ∧ (G 9 = true → t9 = a2) ∧ (G 10 = true → t10 = vn) ∧ (G 11 = true → t11 = a3) ∧ (G 12 = true → t12 = va) ∧ (G 13 = true → t13 = a4) ∧ (G 14 = true → t14 = vd) ∧ (G 15 = true → t15 = .int .i64 E) ∧ (G 16 = true → t16 = .bool false) ∧ (G 7 = false → w = W.drew) ∧ (G 7 = true → G 15 = false → MID w) ∧ (G 15 = true → FIN w) ∧ (G 7 = true → G 0 = true ∧ G 2 = true ∧ G 4 = true ∧ G 6 = true) ∧ (G 15 = true → G 8 = true ∧ G 10 = true ∧ G 12 = true ∧ G 14 = true ∧ G 7 = true) ∧ (G 16 = true → G 15 = true)


/-- The parts of a pair stand a turn of a record. -/
theorem Pair.record {Q0 : Pool} {g R n B : Nat} {rest : List Comp} {S : Sheets} {W W' : World} {row : Option Nat} (h : Pair Q0 g R n rest S W) (hg : W.grownBy W' row) (hr : ∀ r, row = some r → B ≤ r ∧ ∃ o : Obj, W.heap[r]? = some o ∧ o.isCells = false)
    (hc : ∀ d ∈ rest, (∀ k ∈ d.fp, k < B) ∨ (∀ k ∈ d.fp, ∃ o : Obj, W.heap[k]? = some o ∧ o.isCells = true)) : Pair Q0 g R n rest S W' := by
  obtain ⟨Q, lv, ps, N, v, rs, A, BB, C, D⟩ := h
  refine ⟨Q, lv, ps, N, v, rs, A.record hg hr (fun d hd => ?_), BB, C, D⟩
  have hh := (A.mem hd).2.1
  simp only [refL, List.mem_cons, List.mem_append, List.cons_append, List.mem_map] at hd
  rcases hd with rfl | rfl | rfl | rfl | ⟨y, _, rfl⟩ | hd
  · exact Or.inr (poolC_cells hh)
  · exact Or.inr (fun k hk => ⟨_, by have : k = g := by simpa [blkC] using hk
                                     subst this; exact hh, rfl⟩)
  · exact Or.inr (fun k hk => ⟨_, by have : k = R := by simpa [blkC] using hk
                                     subst this; exact hh, rfl⟩)
  · exact Or.inr (rowC_cells hh)
  · exact Or.inr (rowC_cells hh)
  · exact hc d hd

theorem Pair.move {Q0 : Pool} {g R n : Nat} {r1 r2 : List Comp} {S : Sheets} {W : World} (h : Pair Q0 g R n r1 S W) (hp : r1.Perm r2) : Pair Q0 g R n r2 S W := by
  obtain ⟨Q, lv, ps, N, v, rs, A, BB, C, D⟩ := h
  exact ⟨Q, lv, ps, N, v, rs, A.perm (.cons _ (.cons _ (List.Perm.append_left _ hp))), BB, C, D⟩

/-- A block of the rest is written. -/
theorem Pair.setBox {Q0 : Pool} {g R n b : Nat} {u : Value} {t : TypeId} {rest : List Comp} {S : Sheets} {W : World} (h : Pair Q0 g R n (blkC b [u] t :: rest) S W) (u' : Value) : Pair Q0 g R n (blkC b [u'] t :: rest) S (W.setCell ⟨b, 0, none⟩ u') := by
  obtain ⟨Q, lv, ps, N, v, rs, A, BB, C, D⟩ := h
  have p : ∀ (x : Comp) (l : List Comp), (poolC Q :: blkC g (bookL n lv ps) 70 :: (l ++ x :: rest)).Perm (x :: poolC Q :: blkC g (bookL n lv ps) 70 :: (l ++ rest)) := fun x l =>
    ((List.Perm.cons _ (List.Perm.cons _ List.perm_middle)).trans (List.Perm.cons _ (List.Perm.swap _ _ _))).trans (List.Perm.swap _ _ _)
  have A1 := (A.perm (p _ _)).setBlk 0 u'
  exact ⟨Q, lv, ps, N, v, rs, A1.perm (p _ _).symm, BB, C, D⟩

/-- A fresh row beside a pair. -/
theorem Pair.fresh {Q0 : Pool} {g R n : Nat} {rest : List Comp} {S : Sheets} {W0 W1 : World} {x : Xs} (h : Pair Q0 g R n rest S W0) (hf : x.Fresh W0 W1) : Pair Q0 g R n (datC x :: rest) S W1 := by
  obtain ⟨Q, lv, ps, N, v, rs, A, BB, C, D⟩ := h
  have h2 : All (datC x :: poolC Q :: blkC g (bookL n lv ps) 70 :: (refL R v rs ++ rest)) W1 := by
    refine A.add (Fr.below hf.1) (rowC_good _ _ _ _ _) (owns_zero hf.2) (fun k hk => ?_)
    have hk' : x.v.ownBlock = some k := by simpa [datC, rowC] using hk
    exact World.ownsRow.lt hf.2 k hk'
  refine ⟨Q, lv, ps, N, v, rs, h2.perm ?_, BB, C, D⟩
  exact (List.Perm.swap _ _ _).trans (.cons _ ((List.Perm.swap _ _ _).trans (.cons _ List.perm_middle.symm)))

end Go.Proofs.Ytaomhahmpbfjhaa

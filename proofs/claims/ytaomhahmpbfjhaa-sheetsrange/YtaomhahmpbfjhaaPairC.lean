import Derived.Test.YtaomhahmpbfjhaaPairB
namespace Go.Proofs.Ytaomhahmpbfjhaa
open Go.RowKit
set_option linter.unusedVariables false

/-- What an iterator holds, and what is no block of cells. -/
def Still (o : Obj) : Prop := o.isCells = false ∨ ∃ cs t fr, o = .cells cs t fr ∧ (t = 67 ∨ t = 87)

theorem not_row_still {e : TypeId} {size n k : Nat} {v : Value} {vs : List Value} {W : World} {o : Obj} (h : (rowC e size v n vs).holds W) (hk : k ∈ (rowC e size v n vs).fp) (ho : W.heap[k]? = some o) (he : e = 51 ∨ e = 5) : ¬ Still o := by
  have h' : W.ownsRow 0 e size v n vs := h
  rcases h'.2 with ⟨rfl, _⟩ | ⟨g, cap, cur, rfl, hg, hgg, rest⟩
  · simp [rowC, Value.ownBlock] at hk
  · simp [rowC, Value.ownBlock] at hk
    subst hk
    rw [hgg] at ho
    cases ho
    rintro (h1 | ⟨cs, t, fr, e1, ht⟩)
    · cases h1
    · cases e1
      rcases he with rfl | rfl <;> rcases ht with ht | ht <;> exact absurd ht (by decide)

/-- The book, the document's and one box are worked on; all else stands aside. -/
theorem Pair.aside {Q0 : Pool} {g R n b : Nat} {u : Value} {rest : List Comp} {S : Sheets} {W : World} (h : Pair Q0 g R n (blkC b [u] 3 :: rest) S W) :
    ∃ Q F, Pair Q g R n [blkC b [u] 3, oldC W F] S W ∧ (∀ r' S' W', Pair Q g R n (r' ++ [oldC W F]) S' W' → Pair Q0 g R n (r' ++ rest) S' W') ∧ (∀ r' S' W', Pair Q g R n (r' ++ [oldC W F]) S' W' → W.heap.size ≤ W'.heap.size ∧ ∀ (k : Nat) (o : Obj), W.heap[k]? = some o → Still o → W'.heap[k]? = some o) ∧ (∀ d ∈ rest, ∀ k ∈ d.fp, k ∉ F) := by
  obtain ⟨Q, lv, ps, N, v, rs, A, BB, C, D⟩ := h
  have A1 : All ((poolC Q :: blkC g (bookL n lv ps) 70 :: (refL R v rs ++ [blkC b [u] 3])) ++ rest) W := by simpa using A
  have hL := A1.left
  obtain ⟨h1, h2⟩ := A1.aside
  refine ⟨Q, fps (poolC Q :: blkC g (bookL n lv ps) 70 :: (refL R v rs ++ [blkC b [u] 3])), ⟨Q, lv, ps, N, v, rs, by simpa using h1, BB, C, fun x hx => hx⟩, ?_, ?_, ?_⟩
  · rintro r' S' W' ⟨Q', lv', ps', N', v', rs', A', B', C', D'⟩
    have h3 := h2 (poolC Q' :: blkC g (bookL n lv' ps') 70 :: (refL R v' rs' ++ r')) W' (by simpa using A')
    exact ⟨Q', lv', ps', N', v', rs', by simpa using h3, B', C', fun x hx => D' x (D x hx)⟩
  · rintro r' S' W' ⟨Q', lv', ps', N', v', rs', A', B', C', D'⟩
    have hF := All.oldAt A' (w := W) (F := fps (poolC Q :: blkC g (bookL n lv ps) 70 :: (refL R v rs ++ [blkC b [u] 3]))) (by simp)
    refine ⟨hF.size, fun k o ho hs => ?_⟩
    by_cases hk : k ∈ fps (poolC Q :: blkC g (bookL n lv ps) 70 :: (refL R v rs ++ [blkC b [u] 3]))
    · obtain ⟨c, hc, hkc⟩ := List.mem_flatMap.1 hk
      have hcW := (hL.mem hc).2.1
      have nb : ∀ (g' : Nat) (vs : List Value) (t : TypeId), t ≠ 67 → t ≠ 87 → c = blkC g' vs t → False := fun g' vs t e1 e2 ec => by
        subst ec
        have e3 : k = g' := by simpa [blkC] using hkc
        subst e3
        have e4 : W.heap[k]? = some (.cells vs.toArray t (0, 0)) := hcW
        rw [ho] at e4
        cases e4
        rcases hs with hs | ⟨cs, t', fr, e5, e6⟩
        · cases hs
        · cases e5
          exact e6.elim e1 e2
      rcases List.mem_cons.1 hc with rfl | hc
      · obtain ⟨x, hx, rfl⟩ := List.mem_map.1 hkc
        have e1 := hL.poolIn hx
        have e2 := A'.poolIn (D' x hx)
        rw [e2, ← e1, ho]
      rcases List.mem_cons.1 hc with rfl | hc
      · exact (nb _ _ _ (by decide) (by decide) rfl).elim
      rcases List.mem_append.1 hc with hc | hc
      · rcases List.mem_cons.1 hc with rfl | hc
        · exact (nb _ _ _ (by decide) (by decide) rfl).elim
        rcases List.mem_cons.1 hc with rfl | hc
        · exact (not_row_still hcW hkc ho (by simp) hs).elim
        · obtain ⟨x, _, rfl⟩ := List.mem_map.1 hc
          exact (not_row_still (e := 5) hcW hkc ho (by simp) hs).elim
      · obtain rfl : c = blkC b [u] 3 := by simpa using hc
        exact (nb _ _ _ (by decide) (by decide) rfl).elim
    · exact (hF.block k (Array.getElem?_eq_some_iff.1 ho).1 hk).trans ho
  · intro d hd k hk hkA
    obtain ⟨c, hc, hkc⟩ := List.mem_flatMap.1 hkA
    exact A1.apart c hc d hd k hkc hk

theorem All.oldBlk {cs : List Comp} {w W : World} {F : List Nat} {k : Nat} {o : Obj} (h : All cs W) (hm : oldC w F ∈ cs) (ho : w.heap[k]? = some o) (hk : k ∉ F) : W.heap[k]? = some o :=
  ((h.oldAt hm).block k (Array.getElem?_eq_some_iff.1 ho).1 hk).trans ho

theorem Pair.poolAt {Q0 : Pool} {g R n : Nat} {rest : List Comp} {S : Sheets} {W : World} (h : Pair Q0 g R n rest S W) {x : Nat × Obj} (hx : x ∈ Q0) : W.heap[x.1]? = some x.2 := by
  obtain ⟨Q, lv, ps, N, v, rs, A, BB, C, D⟩ := h
  exact A.poolIn (D x hx)

end Go.Proofs.Ytaomhahmpbfjhaa

import Derived.Test.YtpfpamkbahgkpaaSpoil2
namespace Go.Proofs.Ytpfpamkbahgkpaa
open Go.RowKit
set_option linter.unusedVariables false

/-- Lists that are but read. -/
def rdC (rd : List En) : Comp := ⟨fun w => ∀ e ∈ rd, Reads w e.a e.la ∧ Reads w e.m e.lm, rd.flatMap fun e => e.a.ownBlock.toList ++ e.m.ownBlock.toList⟩

theorem rdC_good (rd : List En) : (rdC rd).Good := by
  intro w w' h hs hb e he
  have hin : ∀ k, (e.a.ownBlock = some k ∨ e.m.ownBlock = some k) → k ∈ (rdC rd).fp := fun k hk => List.mem_flatMap.2 ⟨e, he, by rcases hk with hk | hk <;> simp [hk]⟩
  exact ⟨(h e he).1.kept hs.size (fun k _ hk => hb k (hin k (Or.inl hk))), (h e he).2.kept hs.size (fun k _ hk => hb k (hin k (Or.inr hk)))⟩

/-- A list that grows out of another one, which stays. -/
def extC (a : Value) (la : List UInt8) (lv : Value) (ll : List UInt8) : Comp := ⟨fun w => Reads w a la ∧ w.ownsRow 0 5 1 lv ll.length (cellsB ll) ∧ (∀ ga o sp n c, a = .slice (some ⟨ga, o, sp⟩) n c → o = 0) ∧ ∃ t, ll = la ++ t, a.ownBlock.toList ++ lv.ownBlock.toList⟩

theorem extC_good (a : Value) (la : List UInt8) (lv : Value) (ll : List UInt8) : (extC a la lv ll).Good := by
  intro w w' h hs hb
  refine ⟨h.1.kept hs.size (fun k _ hk => hb k (by simp [extC, hk])), byR_good lv ll w w' h.2.1 hs (fun k hk => hb k (List.mem_append.2 (Or.inr hk))), h.2.2⟩

theorem All.weaken {c c' : Comp} {cs : List Comp} {w : World} (h : All (c :: cs) w) (hg : c'.Good) (hh : c.holds w → c'.holds w) (hf : ∀ k ∈ c'.fp, k ∈ c.fp) : All (c' :: cs) w :=
  ⟨⟨hg, hh h.1.2.1, fun k hk => h.1.2.2 k (hf k hk)⟩, fun d hd k hk => h.2.1 d hd k (hf k hk), h.2.2⟩

theorem All.merge {c d : Comp} {cs : List Comp} {w : World} (h : All (c :: d :: cs) w) : All (⟨fun w => c.holds w ∧ d.holds w, c.fp ++ d.fp⟩ :: cs) w := by
  obtain ⟨⟨g1, h1, l1⟩, d1, ⟨g2, h2, l2⟩, d2, hr⟩ := h
  refine ⟨⟨?_, ⟨h1, h2⟩, ?_⟩, ?_, hr⟩
  · intro w w' hh hs hb
    exact ⟨g1 w w' hh.1 hs (fun k hk => hb k (List.mem_append.2 (Or.inl hk))), g2 w w' hh.2 hs (fun k hk => hb k (List.mem_append.2 (Or.inr hk)))⟩
  · intro k hk
    rcases List.mem_append.1 hk with hk | hk
    · exact l1 k hk
    · exact l2 k hk
  · intro x hx k hk
    rcases List.mem_append.1 hk with hk | hk
    · exact d1 x (by simp [hx]) k hk
    · exact d2 x hx k hk

theorem owns_off {w : World} {base : Nat} {e : TypeId} {size : Nat} {v : Value} {n : Nat} {xs : List Value} (h : w.ownsRow base e size v n xs) : ∀ ga o sp n' c, v = .slice (some ⟨ga, o, sp⟩) n' c → o = 0 := by
  intro ga o sp n' c hv
  rcases h.2 with ⟨rfl, _⟩ | ⟨g, cap, cur, rfl, _⟩
  · simp at hv
  · simp only [Value.slice.injEq, Option.some.injEq, Addr.mk.injEq] at hv
    exact hv.1.2.1.symm

/-- It begins as itself. -/
theorem All.ext_begin {a : Value} {la : List UInt8} {cs : List Comp} {w : World} (h : All (byR a la :: cs) w) : All (extC a la a la :: cs) w :=
  h.weaken (extC_good _ _ _ _) (fun hh => ⟨Reads.of_owns hh, hh, owns_off hh, [], by simp⟩) (fun k hk => by
    rcases List.mem_append.1 hk with hk | hk <;> exact hk)

/-- One byte more. -/
theorem All.ext_append {a lv : Value} {la ll : List UInt8} {x : UInt8} {cs : List Comp} {w w1 : World} {g cap : Nat} (h : All (extC a la lv ll :: cs) w) (hown : w1.ownsRow 0 5 1 (.slice (some ⟨g, 0, none⟩) (ll.length + 1) cap) (ll.length + 1) (cellsB ll ++ cellsB [x])) (hg : w.grownBy w1 lv.ownBlock) (hat : lv.ownBlock = some g ∨ (g = w.heap.size ∧ Below w.heap.size w w1)) :
    All (extC a la (.slice (some ⟨g, 0, none⟩) (ll.length + 1) cap) (ll ++ [x]) :: cs) w1 := by
  obtain ⟨hra, hro, hoff, t, ht⟩ := h.1.2.1
  have hown' : w1.ownsRow 0 5 1 (.slice (some ⟨g, 0, none⟩) (ll.length + 1) cap) (ll ++ [x]).length (cellsB (ll ++ [x])) := by
    rw [cellsB_append, List.length_append]; exact hown
  have hf : Fr (extC a la lv ll).fp w w1 := (grown_fr hg).mono (fun k hk => List.mem_append.2 (Or.inr hk))
  have hra1 : Reads w1 a la := by
    rcases hat with e | ⟨e, hb⟩
    · by_cases hab : a.ownBlock = some g
      · -- the block is the same: its beginning is as it was
        obtain ⟨ao, c, rfl, hc, hcase⟩ := hra
        rcases hcase with ⟨rfl, h0⟩ | ⟨ga, o, rfl, hga, hcell⟩
        · exact ⟨ao, c, rfl, hc, Or.inl ⟨rfl, h0⟩⟩
        · have hgg : ga = g := by simpa [Value.ownBlock] using hab
          subst hgg
          refine ⟨_, c, rfl, hc, Or.inr ⟨ga, o, rfl, Nat.lt_of_lt_of_le hga hg.size, fun j u hu => ?_⟩⟩
          have hj : j < la.length := by
            have := (List.getElem?_eq_some_iff.1 hu).1
            rwa [cellsB_length] at this
          have ho := hoff ga o none la.length c rfl
          subst ho
          have q := World.ownsRow.cells hown' (g := ga) rfl j u (by
            rw [ht, List.append_assoc, cellsB_append, List.getElem?_append_left (by rw [cellsB_length]; exact hj)]
            exact hu)
          simpa [Addr.add_lit] using q
      · refine hra.kept hg.size (fun k hk0 hk => hg.block k hk0 (fun x => hab ?_))
        rw [e] at x
        rw [hk, x]
    · exact hra.below hb
  refine h.turn hf (extC_good _ _ _ _) ⟨hra1, hown', hoff, t ++ [x], by rw [ht, List.append_assoc]⟩ (fun k hk => ?_) (fun k hk => ?_)
  · rcases List.mem_append.1 hk with hk | hk
    · exact Or.inl (List.mem_append.2 (Or.inl hk))
    · have hkg : k = g := by simpa [Value.ownBlock, eq_comm] using hk
      rcases hat with e | ⟨e, _⟩
      · exact Or.inl (List.mem_append.2 (Or.inr (by rw [e, hkg]; simp)))
      · exact Or.inr (by omega)
  · rcases List.mem_append.1 hk with hk | hk
    · exact Nat.lt_of_lt_of_le (h.1.2.2 k (List.mem_append.2 (Or.inl hk))) hg.size
    · have hkg : k = g := by simpa [Value.ownBlock, eq_comm] using hk
      rw [hkg]
      exact (World.ownsRow.lt hown' g rfl).2

theorem All.byR_append {lv : Value} {ll : List UInt8} {x : UInt8} {cs : List Comp} {w w1 : World} {g cap : Nat} (h : All (byR lv ll :: cs) w) (hown : w1.ownsRow 0 5 1 (.slice (some ⟨g, 0, none⟩) (ll.length + 1) cap) (ll.length + 1) (cellsB ll ++ cellsB [x])) (hg : w.grownBy w1 lv.ownBlock) (hat : lv.ownBlock = some g ∨ (g = w.heap.size ∧ Below w.heap.size w w1)) :
    All (byR (.slice (some ⟨g, 0, none⟩) (ll.length + 1) cap) (ll ++ [x]) :: cs) w1 := by
  have hown' : w1.ownsRow 0 5 1 (.slice (some ⟨g, 0, none⟩) (ll.length + 1) cap) (ll ++ [x]).length (cellsB (ll ++ [x])) := by
    rw [cellsB_append, List.length_append]; exact hown
  refine h.turn (grown_fr hg) (byR_good _ _) hown' (fun k hk => ?_) (fun k hk => ?_)
  · have hkg : k = g := by simpa [byR, Value.ownBlock, eq_comm] using hk
    rcases hat with e | ⟨e, _⟩
    · exact Or.inl (by simp [byR, e, hkg])
    · exact Or.inr (by omega)
  · have hkg : k = g := by simpa [byR, Value.ownBlock, eq_comm] using hk
    rw [hkg]
    exact (World.ownsRow.lt hown' g rfl).2

/-- The shelf while its lists grow. -/
structure SpB (w : World) (S : Nat) (ov wv : Value) (cs : List Comp) (done post news : List En) : Prop where
  all : All (boxC S ov wv :: slC ov ((done ++ post ++ news).map En.a) :: slC wv ((done ++ post ++ news).map En.m) :: rdC (done ++ news) :: (byRs post ++ cs)) w
  ok : ∀ e ∈ done ++ post ++ news, e.la = e.lm ∧ e.la.length ≤ 2199023255552
  okp : ∀ e ∈ post, e.la.length ≤ 1099511627776

theorem SpB.box {w : World} {S : Nat} {ov wv : Value} {cs : List Comp} {done post news : List En} (h : SpB w S ov wv cs done post news) : ShBox w S ov wv (done ++ post ++ news) := by
  have h1 : w.ownsRow 0 31 1 ov ((done ++ post ++ news).map En.a).length ((done ++ post ++ news).map En.a) := h.all.2.2.1.2.1
  have h2 : w.ownsRow 0 31 1 wv ((done ++ post ++ news).map En.m).length ((done ++ post ++ news).map En.m) := h.all.2.2.2.2.1.2.1
  rw [List.length_map] at h1 h2
  exact ⟨h.all.1.2.1, h1, h2⟩

theorem SpB.of {w : World} {S : Nat} {ov wv : Value} {us ms : List Value} {cs : List Comp} {es : List En} (h : SpA w S ov wv us ms cs es) : SpB w S ov wv cs [] es [] := by
  refine ⟨?_, ?_, fun e he => (h.ok e he).2⟩
  · have ha := h.all
    rw [← h.ea, ← h.em] at ha
    simp only [List.nil_append, List.append_nil]
    obtain ⟨a1, a2, a3, a4, a5, a6, a7⟩ := ha
    refine ⟨a1, ?_, a3, ?_, a5, ?_, ⟨rdC_good [], by simp [rdC], by simp [rdC]⟩, by simp [rdC, Disj], a7⟩
    · intro d hd k hk hkd
      rcases List.mem_cons.1 hd with rfl | hd
      · exact a2 _ (by simp) k hk hkd
      rcases List.mem_cons.1 hd with rfl | hd
      · exact a2 _ (by simp) k hk hkd
      rcases List.mem_cons.1 hd with rfl | hd
      · simp [rdC] at hkd
      · exact a2 d (by simp [List.mem_append.1 hd]) k hk hkd
    · intro d hd k hk hkd
      rcases List.mem_cons.1 hd with rfl | hd
      · exact a4 _ (by simp) k hk hkd
      rcases List.mem_cons.1 hd with rfl | hd
      · simp [rdC] at hkd
      · exact a4 d (by simp [List.mem_append.1 hd]) k hk hkd
    · intro d hd k hk hkd
      rcases List.mem_cons.1 hd with rfl | hd
      · simp [rdC] at hkd
      · exact a6 d hd k hk hkd
  · intro e he
    have := h.ok e (by simpa using he)
    exact ⟨this.1, by omega⟩

end Go.Proofs.Ytpfpamkbahgkpaa

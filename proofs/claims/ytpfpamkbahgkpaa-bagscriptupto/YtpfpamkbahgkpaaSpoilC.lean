import Derived.Test.YtpfpamkbahgkpaaSpoilB
namespace Go.Proofs.Ytpfpamkbahgkpaa
open Go.RowKit
set_option linter.unusedVariables false

section
variable {w w1 : World} {S : Nat} {ov wv : Value} {cs : List Comp} {done post news : List En} {e : En}

/-- What stays while a list grows. -/
def restB (S : Nat) (ov wv : Value) (cs : List Comp) (done post news : List En) (e : En) : List Comp :=
  boxC S ov wv :: slC ov ((done ++ (e :: post) ++ news).map En.a) :: slC wv ((done ++ (e :: post) ++ news).map En.m) :: rdC (done ++ news) :: byR e.m e.lm :: (byRs post ++ cs)

/-- A copy was made: the first list begins to grow. -/
theorem SpB.begin {mv : Value} (h : SpB w S ov wv cs done (e :: post) news) (hb : Below w.heap.size w w1) (ho : w1.ownsRow w.heap.size 5 1 mv e.lm.length (cellsB e.lm)) : All (extC e.a e.la e.a e.la :: byR mv e.lm :: restB S ov wv cs done post news e) w1 := by
  have A := h.all.addByR hb ho
  have p : (byR mv e.lm :: boxC S ov wv :: slC ov ((done ++ (e :: post) ++ news).map En.a) :: slC wv ((done ++ (e :: post) ++ news).map En.m) :: rdC (done ++ news) :: (byRs (e :: post) ++ cs)).Perm (byR e.a e.la :: byR mv e.lm :: restB S ov wv cs done post news e) := by
    have h1 : byRs (e :: post) ++ cs = byR e.a e.la :: byR e.m e.lm :: (byRs post ++ cs) := by simp [byRs]
    rw [h1]
    exact List.perm_middle (a := byR e.a e.la) (l₁ := [byR mv e.lm, boxC S ov wv, slC ov ((done ++ (e :: post) ++ news).map En.a), slC wv ((done ++ (e :: post) ++ news).map En.m), rdC (done ++ news)])
  exact (A.perm p).ext_begin

/-- Both have grown: they are but read from now on. -/
theorem restB_close {lv mv : Value} {ll lm : List UInt8} (h : All (extC e.a e.la lv ll :: byR mv lm :: restB S ov wv cs done post news e) w) :
    All (boxC S ov wv :: slC ov ((done ++ (e :: post) ++ news).map En.a) :: slC wv ((done ++ (e :: post) ++ news).map En.m) :: rdC ((done ++ [e]) ++ (news ++ [⟨lv, mv, ll, lm⟩])) :: (byRs post ++ cs)) w := by
  have p : (extC e.a e.la lv ll :: byR mv lm :: restB S ov wv cs done post news e).Perm (extC e.a e.la lv ll :: byR mv lm :: byR e.m e.lm :: rdC (done ++ news) :: boxC S ov wv :: slC ov ((done ++ (e :: post) ++ news).map En.a) :: slC wv ((done ++ (e :: post) ++ news).map En.m) :: (byRs post ++ cs)) := by
    refine List.Perm.cons _ (List.Perm.cons _ ?_)
    refine (List.perm_middle (a := byR e.m e.lm) (l₁ := [boxC S ov wv, slC ov ((done ++ (e :: post) ++ news).map En.a), slC wv ((done ++ (e :: post) ++ news).map En.m), rdC (done ++ news)])).trans (List.Perm.cons _ ?_)
    exact List.perm_middle (a := rdC (done ++ news)) (l₁ := [boxC S ov wv, slC ov ((done ++ (e :: post) ++ news).map En.a), slC wv ((done ++ (e :: post) ++ news).map En.m)])
  have M := ((h.perm p).merge).merge.merge
  have W := M.weaken (c' := rdC ((done ++ [e]) ++ (news ++ [⟨lv, mv, ll, lm⟩]))) (rdC_good _) (fun hh => by
    obtain ⟨⟨⟨h1, h2⟩, h3⟩, h4⟩ := hh
    intro x hx
    have hx' : x ∈ done ++ news ∨ x = e ∨ x = ⟨lv, mv, ll, lm⟩ := by
      simp only [List.mem_append, List.mem_singleton] at hx ⊢
      rcases hx with (hx | hx) | (hx | hx)
      · exact Or.inl (Or.inl hx)
      · exact Or.inr (Or.inl hx)
      · exact Or.inl (Or.inr hx)
      · exact Or.inr (Or.inr hx)
    rcases hx' with hx' | rfl | rfl
    · exact h4 x hx'
    · exact ⟨h1.1, Reads.of_owns h3⟩
    · exact ⟨Reads.of_owns h1.2.1, Reads.of_owns h2⟩) (fun k hk => by
    obtain ⟨x, hx, hkx⟩ := List.mem_flatMap.1 hk
    have hx' : x ∈ done ++ news ∨ x = e ∨ x = ⟨lv, mv, ll, lm⟩ := by
      simp only [List.mem_append, List.mem_singleton] at hx ⊢
      rcases hx with (hx | hx) | (hx | hx)
      · exact Or.inl (Or.inl hx)
      · exact Or.inr (Or.inl hx)
      · exact Or.inl (Or.inr hx)
      · exact Or.inr (Or.inr hx)
    show k ∈ (((extC e.a e.la lv ll).fp ++ (byR mv lm).fp) ++ (byR e.m e.lm).fp) ++ (rdC (done ++ news)).fp
    rcases hx' with hx' | rfl | rfl
    · exact List.mem_append.2 (Or.inr (List.mem_flatMap.2 ⟨x, hx', hkx⟩))
    · rcases List.mem_append.1 hkx with hkx | hkx
      · exact List.mem_append.2 (Or.inl (List.mem_append.2 (Or.inl (List.mem_append.2 (Or.inl (List.mem_append.2 (Or.inl hkx)))))))
      · exact List.mem_append.2 (Or.inl (List.mem_append.2 (Or.inr hkx)))
    · rcases List.mem_append.1 hkx with hkx | hkx
      · exact List.mem_append.2 (Or.inl (List.mem_append.2 (Or.inl (List.mem_append.2 (Or.inl (List.mem_append.2 (Or.inr hkx)))))))
      · exact List.mem_append.2 (Or.inl (List.mem_append.2 (Or.inl (List.mem_append.2 (Or.inr hkx))))))
  refine W.perm ?_
  exact (List.perm_middle (a := rdC ((done ++ [e]) ++ (news ++ [⟨lv, mv, ll, lm⟩]))) (l₁ := [boxC S ov wv, slC ov ((done ++ (e :: post) ++ news).map En.a), slC wv ((done ++ (e :: post) ++ news).map En.m)])).symm

end

/-- The second list of lists grows. -/
theorem All.sl_append2 {b s : Comp} {v v' x : Value} {vs : List Value} {cs : List Comp} {w w1 : World} {base : Nat} (h : All (b :: s :: slC v vs :: cs) w) (hown : w1.ownsRow base 31 1 v' (vs.length + 1) (vs ++ [x])) (hg : w.grownBy w1 v.ownBlock) (hat : v'.ownBlock = v.ownBlock ∨ v'.ownBlock = some w.heap.size) : All (b :: s :: slC v' (vs ++ [x]) :: cs) w1 := by
  have p : (b :: s :: slC v vs :: cs).Perm (slC v vs :: b :: s :: cs) := List.perm_middle (a := slC v vs) (l₁ := [b, s])
  exact ((h.perm p).sl_append hown hg hat).perm (List.perm_middle (a := slC v' (vs ++ [x])) (l₁ := [b, s])).symm

/-- A list has grown, and both are laid aside. -/
theorem SpB.grew {w : World} {S : Nat} {ov wv lv mv : Value} {cs : List Comp} {done post news : List En} {e : En} {ll lm : List UInt8} (h0 : ∀ x ∈ done ++ (e :: post) ++ news, x.la = x.lm ∧ x.la.length ≤ 2199023255552) (h1 : ∀ x ∈ post, x.la.length ≤ 1099511627776) (hl : ll = lm) (hb : ll.length ≤ 2199023255552)
    (h : All (boxC S ov wv :: slC ov ((done ++ (e :: post) ++ news).map En.a ++ [lv]) :: slC wv ((done ++ (e :: post) ++ news).map En.m ++ [mv]) :: rdC ((done ++ [e]) ++ (news ++ [⟨lv, mv, ll, lm⟩])) :: (byRs post ++ cs)) w) : SpB w S ov wv cs (done ++ [e]) post (news ++ [⟨lv, mv, ll, lm⟩]) := by
  refine ⟨?_, fun x hx => ?_, h1⟩
  · have e1 : (done ++ [e] ++ post ++ (news ++ [(⟨lv, mv, ll, lm⟩ : En)])).map En.a = (done ++ (e :: post) ++ news).map En.a ++ [lv] := by simp
    have e2 : (done ++ [e] ++ post ++ (news ++ [(⟨lv, mv, ll, lm⟩ : En)])).map En.m = (done ++ (e :: post) ++ news).map En.m ++ [mv] := by simp
    rw [e1, e2]
    exact h
  · have : x ∈ done ++ (e :: post) ++ news ∨ x = ⟨lv, mv, ll, lm⟩ := by
      simp only [List.mem_append, List.mem_cons, List.not_mem_nil, or_false] at hx ⊢
      rcases hx with ((hx | hx) | hx) | (hx | hx) <;> simp [hx]
    rcases this with hx | rfl
    · exact h0 x hx
    · exact ⟨hl, hb⟩

/-- At the end all lists read as they must. -/
theorem SpB.ends {w : World} {S : Nat} {ov wv : Value} {cs : List Comp} {done news : List En} (h : SpB w S ov wv cs done [] news) : ∀ x ∈ done ++ [] ++ news, Reads w x.a x.la ∧ Reads w x.m x.lm ∧ x.la = x.lm ∧ x.la.length ≤ 140737488355328 := by
  intro x hx
  have hr : ∀ e ∈ done ++ news, Reads w e.a e.la ∧ Reads w e.m e.lm := h.all.2.2.2.2.2.2.1.2.1
  have := h.ok x hx
  have hx' : x ∈ done ++ news := by simpa using hx
  exact ⟨(hr x hx').1, (hr x hx').2, this.1, by omega⟩

theorem mark2_cell (i : Nat) : [Value.int .u8 (((i : Int) * 7 + 2) % 256)] = cellsB [UInt8.ofNat (i * 7 + 2)] := by
  simp only [cellsB, List.map_cons, List.map_nil, UInt8.toNat_ofNat']
  congr 2

end Go.Proofs.Ytpfpamkbahgkpaa

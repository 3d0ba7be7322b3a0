import Derived.Test.YtdndfbgjaadbmaaStill
namespace Go.Proofs.Ytdndfbgjaadbmaa
open Go.RowKit
set_option linter.unusedVariables false

/-- The document's writer, as a part of the memory. -/
def xwC (b : Nat) (v : Value) (st : Option (List UInt8)) : Comp := ⟨fun w => Xst w b v st, b :: v.ownBlock.toList⟩

theorem xwC_good (b : Nat) (v : Value) (st : Option (List UInt8)) : (xwC b v st).Good := by
  intro w w' h hs hb
  exact Xst.kept h (hb b (by simp [xwC])) (fun k hk => hb k (by simp [xwC, hk]))

theorem All.xwrote {b : Nat} {cs : List Comp} {w w' : World} {v v' : Value} {st st' : Option (List UInt8)} (h : All (xwC b v st :: cs) w) (hs : WStep b w v w' v') (hw : Xst w' b v' st') : All (xwC b v' st' :: cs) w' := by
  refine h.turn hs.fr (xwC_good _ _ _) hw (fun k hk => ?_) (fun k hk => ?_)
  · have : k = b ∨ v'.ownBlock = some k := by simpa [xwC] using hk
    rcases this with rfl | e
    · exact Or.inl (by simp [xwC])
    · rcases hs.own k e with e | e
      · exact Or.inl (by simp [xwC, e])
      · exact Or.inr e
  · have : k = b ∨ v'.ownBlock = some k := by simpa [xwC] using hk
    rcases this with rfl | e
    · exact hw.lt
    · exact (hw.own_lt k e).2

/-- An item in a block of its own. -/
def itC (H : Nat) (x : It) : Comp := ⟨fun w => w.heap[H]? = some (.cells #[.int .i64 x.kind, .int .i64 x.n, .bool x.v, .string x.s] 35 (0, 0)), [H]⟩

theorem itC_good (H : Nat) (x : It) : (itC H x).Good := by
  intro w w' h hs hb
  show w'.heap[H]? = _
  rw [hb H (by simp [itC])]; exact h

theorem All.addItem {cs : List Comp} {w : World} (h : All cs w) (x : It) : All (itC w.heap.size x :: cs) (w.alloc (.cells #[.int .i64 x.kind, .int .i64 x.n, .bool x.v, .string x.s] 35)) := by
  refine h.add (Fr.below ((Below.refl _ _).alloc (Nat.le_refl _) _)) (itC_good _ _) (heap_alloc_new _ _) (fun k hk => ?_)
  have : k = w.heap.size := by simpa [itC] using hk
  subst this
  exact ⟨Nat.le_refl _, by simp⟩

/-- What an item makes of a writer. -/
def wS (st : Option (List UInt8)) (x : It) : Option (List UInt8) :=
  if x.kind = 1 then numS st x.n else if x.kind = 2 then addS st (enc 9 (foldN x.n)) else if x.kind = 3 then addS st [if x.v then 1 else 0] else if x.kind = 4 then addS st (enc 9 x.s.size ++ x.s.data.toList) else if x.kind = 5 then addS st (enc 9 x.s.size ++ x.s.data.toList) else st

section
variable {w w1 w2 : World} {b x H : Nat} {v vx v1 v2 : Value} {st st1 : Option (List UInt8)} {cs : List Comp} {it : It}

theorem All.both (h : All (wrC b v st :: xwC x vx st :: cs) w) (h1 : Wst w1 b v1 st1) (s1 : WStep b w v w1 v1) : All (xwC x vx st :: wrC b v1 st1 :: cs) w1 := (h.wrote s1 h1).swap
theorem All.both2 (h : All (xwC x vx st :: wrC b v1 st1 :: cs) w1) (h2 : Xst w2 x v2 st1) (s2 : WStep x w1 vx w2 v2) : All (wrC b v1 st1 :: xwC x v2 st1 :: cs) w2 := (h.xwrote s2 h2).swap

theorem All.item (h : All (xwC x vx st :: wrC b v1 st1 :: itC H it :: cs) w) : w.cell? ⟨H, 1, none⟩ = some (.int .i64 it.n) ∧ w.cell? ⟨H, 2, none⟩ = some (.bool it.v) ∧ w.cell? ⟨H, 3, none⟩ = some (.string it.s) := by
  have hh : w.heap[H]? = some (.cells #[.int .i64 it.kind, .int .i64 it.n, .bool it.v, .string it.s] 35 (0, 0)) := h.2.2.2.2.1.2.1
  rw [cell_at hh, cell_at hh, cell_at hh]
  exact ⟨rfl, rfl, rfl⟩
end

set_option maxHeartbeats 3200000 in
set_option maxRecDepth 1000000 in
theorem write_plain {w : World} {b x : Nat} {v vx : Value} {st : Option (List UInt8)} {cs : List Comp} {it : It} (h : All (wrC b v st :: xwC x vx st :: cs) w) (hit : it.Ok) (hlen : lenS st + it.s.size ≤ 100000000000000) (hk : it.kind ≠ 5) :
    Calls Try.prog 12 #[.pointer (some ⟨b, 0, none⟩), .pointer (some ⟨x, 0, none⟩), .agg #[.int .i64 it.kind, .int .i64 it.n, .bool it.v, .string it.s]] w fun e w' => e = .returned (.bool true) ∧ ∃ v' vx', All (wrC b v' (wS st it) :: xwC x vx' (wS st it) :: cs) w' := by
  have A0 := hid ((h.addItem it).perm ((List.perm_middle (a := itC w.heap.size it) (l₁ := [wrC b v st, xwC x vx st])).symm))
  obtain ⟨_, hn1, hn2⟩ := hit
  clear h
  obtain ⟨k, n, bb, s⟩ := it
  simp only at hk hlen hn1 hn2 ⊢
  by_cases h1 : k = 1
  · subst h1
    have F : Hid (wS st ⟨1, n, bb, s⟩ = numS st n) := by simp [wS, Hid]
    go_enter Try.func12, Try.ntmps12
    go_wp2_with fail
    refine (num_any A0.out.1.2.1 n hn2 (by omega)).mono ?_
    rintro e w1 ⟨rfl, v1, q1, q2⟩
    have A1 := hid (A0.out.both q1 q2)
    have c1 := A1.out.item.1
    clear q1 q2 A0
    go_wp2_with fail
    refine (xnum_any A1.out.1.2.1 n hn2 (by omega)).mono ?_
    rintro e w2 ⟨rfl, v2, q1, q2⟩
    have A2 := hid (A1.out.both2 q1 q2)
    clear q1 q2 A1 c1
    go_wp2
    go_ret
    rw [F.out]
    exact ⟨rfl, v1, v2, (A2.out.perm (List.perm_middle (a := itC w.heap.size ⟨1, n, bb, s⟩) (l₁ := [wrC b v1 (numS st n), xwC x v2 (numS st n)]))).tail⟩
  by_cases h2 : k = 2
  · subst h2
    have F : Hid (wS st ⟨2, n, bb, s⟩ = addS st (enc 9 (foldN n))) := by simp [wS, Hid]
    go_enter Try.func12, Try.ntmps12
    go_wp2_with fail
    refine (signed_any A0.out.1.2.1 n hn1 hn2 (by omega)).mono ?_
    rintro e w1 ⟨rfl, v1, q1, q2⟩
    have A1 := hid (A0.out.both q1 q2)
    have c1 := A1.out.item.1
    clear q1 q2 A0
    go_wp2_with fail
    refine (xsigned_any A1.out.1.2.1 n hn1 hn2 (by omega)).mono ?_
    rintro e w2 ⟨rfl, v2, q1, q2⟩
    have A2 := hid (A1.out.both2 q1 q2)
    clear q1 q2 A1 c1
    go_wp2
    go_ret
    rw [F.out]
    exact ⟨rfl, v1, v2, (A2.out.perm (List.perm_middle (a := itC w.heap.size ⟨2, n, bb, s⟩) (l₁ := [wrC b v1 (addS st (enc 9 (foldN n))), xwC x v2 (addS st (enc 9 (foldN n)))]))).tail⟩
  by_cases h3 : k = 3
  · subst h3
    clear hn1 hn2
    have F : Hid (wS st ⟨3, n, bb, s⟩ = addS st [if bb then 1 else 0]) := by simp [wS, Hid]
    go_enter Try.func12, Try.ntmps12
    go_wp2_with fail
    refine (bool_any A0.out.1.2.1 bb (by omega)).mono ?_
    rintro e w1 ⟨rfl, v1, q1, q2⟩
    have A1 := hid (A0.out.both q1 q2)
    have c1 := A1.out.item.2.1
    clear q1 q2 A0
    go_wp2_with fail
    refine (xbool_any A1.out.1.2.1 bb (by omega)).mono ?_
    rintro e w2 ⟨rfl, v2, q1, q2⟩
    have A2 := hid (A1.out.both2 q1 q2)
    clear q1 q2 A1 c1
    go_wp2
    go_ret
    rw [F.out]
    exact ⟨rfl, v1, v2, (A2.out.perm (List.perm_middle (a := itC w.heap.size ⟨3, n, bb, s⟩) (l₁ := [wrC b v1 (addS st [if bb then 1 else 0]), xwC x v2 (addS st [if bb then 1 else 0])]))).tail⟩
  by_cases h4 : k = 4
  · subst h4
    clear hn1 hn2
    have F : Hid (wS st ⟨4, n, bb, s⟩ = addS st (enc 9 s.size ++ s.data.toList)) := by simp [wS, Hid]
    go_enter Try.func12, Try.ntmps12
    go_wp2_with fail
    refine (text_any A0.out.1.2.1 s (by omega)).mono ?_
    rintro e w1 ⟨rfl, v1, q1, q2⟩
    have A1 := hid (A0.out.both q1 q2)
    have c1 := A1.out.item.2.2
    clear q1 q2 A0
    go_wp2_with fail
    refine (xtext_any A1.out.1.2.1 s (by omega)).mono ?_
    rintro e w2 ⟨rfl, v2, q1, q2⟩
    have A2 := hid (A1.out.both2 q1 q2)
    clear q1 q2 A1 c1
    go_wp2
    go_ret
    rw [F.out]
    exact ⟨rfl, v1, v2, (A2.out.perm (List.perm_middle (a := itC w.heap.size ⟨4, n, bb, s⟩) (l₁ := [wrC b v1 (addS st (enc 9 s.size ++ s.data.toList)), xwC x v2 (addS st (enc 9 s.size ++ s.data.toList))]))).tail⟩
  · have F : Hid (wS st ⟨k, n, bb, s⟩ = st) := by simp [wS, Hid, h1, h2, h3, h4, hk]
    have g1 : (k == 1) = false := by simpa using h1
    have g2 : (k == 2) = false := by simpa using h2
    have g3 : (k == 3) = false := by simpa using h3
    have g4 : (k == 4) = false := by simpa using h4
    have g5 : (k == 5) = false := by simpa using hk
    clear h1 h2 h3 h4 hk hn1 hn2
    go_enter Try.func12, Try.ntmps12
    go_wp2
    go_ret
    rw [F.out]
    exact ⟨rfl, v, vx, (A0.out.perm (List.perm_middle (a := itC w.heap.size ⟨k, n, bb, s⟩) (l₁ := [wrC b v st, xwC x vx st]))).tail⟩

end Go.Proofs.Ytdndfbgjaadbmaa

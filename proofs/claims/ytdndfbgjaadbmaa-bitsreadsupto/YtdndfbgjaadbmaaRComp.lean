import Derived.Test.YtdndfbgjaadbmaaXR4
namespace Go.Proofs.Ytdndfbgjaadbmaa
open Go.RowKit
set_option linter.unusedVariables false

/-- A reader of the program's, as a part of the memory. -/
def prC (b : Nat) (D : Option Nat) (rv : Value) (rs : List UInt8) (place : Nat) (err : Int) : Comp := ⟨fun w => Rd w b D rv rs place err, b :: D.toList⟩
/-- One of the document's. -/
def xrC (b : Nat) (v : Value) (B rs : List UInt8) (place : Nat) (err : Int) : Comp := ⟨fun w => XRd w b v B rs place err, b :: v.ownBlock.toList⟩

theorem prC_good (b : Nat) (D : Option Nat) (rv : Value) (rs : List UInt8) (place : Nat) (err : Int) : (prC b D rv rs place err).Good := by
  intro w w' h hs hb
  have h' : Rd w b D rv rs place err := h
  exact h'.kept hs.size (hb b (by simp [prC])) (fun k hk => hb k (by simp [prC, h'.own k hk]))

theorem xrC_good (b : Nat) (v : Value) (B rs : List UInt8) (place : Nat) (err : Int) : (xrC b v B rs place err).Good := by
  intro w w' h hs hb
  have h' : XRd w b v B rs place err := h
  exact h'.kept (hb b (by simp [xrC])) (fun k hk => hb k (by simp [xrC, hk]))

theorem Only.fr {b : Nat} {w w' : World} (h : Only b w w') (F : List Nat) : Fr (b :: F) w w' := ⟨h.os, h.tape, h.output, h.size, fun k hk hF => h.block k hk (fun e => hF (by simp [e]))⟩

/-- The first part is turned, within its blocks. -/
theorem All.within {c c' : Comp} {cs : List Comp} {w w' : World} (h : All (c :: cs) w) (hf : Fr c.fp w w') (hfp : c'.fp = c.fp) (hg : c'.Good) (hh : c'.holds w') : All (c' :: cs) w' :=
  h.turn hf hg hh (by rw [hfp]; exact Gr.refl _ _) (by rw [hfp]; exact fun k hk => Nat.lt_of_lt_of_le (h.1.2.2 k hk) hf.size)

/-- And a list is made besides. -/
theorem All.withinRow {c c' : Comp} {cs : List Comp} {w w' : World} {a : Value} {l : List UInt8} (h : All (c :: cs) w) (hf : Fr c.fp w w') (hfp : c'.fp = c.fp) (hg : c'.Good) (hh : c'.holds w') (ho : w'.ownsRow w.heap.size 5 1 a l.length (cellsB l)) : All (rowC a l :: c' :: cs) w' := by
  have hn : ∀ k ∈ (rowC a l).fp, w.heap.size ≤ k ∧ k < w'.heap.size := fun k hk => World.ownsRow.lt ho k (by simpa [rowC] using hk)
  refine ⟨⟨rowC_good a l, owns_zero ho, fun k hk => (hn k hk).2⟩, fun d hd k hk hkd => ?_, h.within hf hfp hg hh⟩
  have h1 := (hn k hk).1
  have h2 : k < w.heap.size := by
    rcases List.mem_cons.1 hd with rfl | hd
    · rw [hfp] at hkd; exact h.1.2.2 k hkd
    · exact (h.2.2.mem hd).2.2 k hkd
  omega

section
variable {b x : Nat} {D : Option Nat} {rv rv' v a : Value} {B rs rs' l : List UInt8} {place place' : Nat} {err err' : Int} {cs : List Comp} {w w' : World}

theorem All.rd (h : All (prC b D rv rs place err :: cs) w) (hr : Rd w' b D rv' rs' place' err') (ho : Only b w w') : All (prC b D rv' rs' place' err' :: cs) w' := h.within (ho.fr _) rfl (prC_good _ _ _ _ _ _) hr
theorem All.xr (h : All (xrC x v B rs place err :: cs) w) (hr : XRd w' x v B rs' place' err') (ho : Only x w w') : All (xrC x v B rs' place' err' :: cs) w' := h.within (ho.fr _) rfl (xrC_good _ _ _ _ _ _) hr
theorem All.rdRow (h : All (prC b D rv rs place err :: cs) w) (hr : Rd w' b D rv' rs' place' err') (ho : Only b w w') (hrow : w'.ownsRow w.heap.size 5 1 a l.length (cellsB l)) : All (rowC a l :: prC b D rv' rs' place' err' :: cs) w' := h.withinRow (ho.fr _) rfl (prC_good _ _ _ _ _ _) hr hrow
theorem All.xrRow (h : All (xrC x v B rs place err :: cs) w) (hr : XRd w' x v B rs' place' err') (ho : Only x w w') (hrow : w'.ownsRow w.heap.size 5 1 a l.length (cellsB l)) : All (rowC a l :: xrC x v B rs' place' err' :: cs) w' := h.withinRow (ho.fr _) rfl (xrC_good _ _ _ _ _ _) hr hrow

/-- There is room. -/
theorem XRd.room (h : XRd w x v B rs place err) : place + rs.length ≤ B.length := by
  have h1 := h.1.le
  rw [← h.2]
  unfold rsX
  split
  · rw [List.length_drop]; omega
  · simp; omega

/-- New readers. -/
theorem All.addRd (h : All cs w) (hb : Below w.heap.size w w') (hr : Rd w' b D rv rs place err) (h1 : w.heap.size ≤ b) (h2 : ∀ k, D = some k → w.heap.size ≤ k ∧ k < w'.heap.size) : All (prC b D rv rs place err :: cs) w' := by
  refine h.add (Fr.below hb) (prC_good _ _ _ _ _ _) hr (fun k hk => ?_)
  have : k = b ∨ D = some k := by simpa [prC] using hk
  rcases this with rfl | e
  · exact ⟨h1, hr.lt⟩
  · exact h2 k e
theorem All.addXr (h : All cs w) (hb : Below w.heap.size w w') (hr : XRd w' x v B rs place err) (h1 : w.heap.size ≤ x) (h2 : ∀ k, v.ownBlock = some k → w.heap.size ≤ k) : All (xrC x v B rs place err :: cs) w' := by
  refine h.add (Fr.below hb) (xrC_good _ _ _ _ _ _) hr (fun k hk => ?_)
  have : k = x ∨ v.ownBlock = some k := by simpa [xrC] using hk
  rcases this with rfl | e
  · exact ⟨h1, hr.1.lt⟩
  · exact ⟨h2 k e, hr.1.own_lt k e⟩
end

section
variable {S : Nat} {ov wv : Value} {es : List En} {c : Comp} {cs ds : List Comp} {w : World}
theorem Cn_perm (S : Nat) (ov wv : Value) (es : List En) (c : Comp) (cs : List Comp) : (Cn S ov wv es (c :: cs)).Perm (c :: Cn S ov wv es cs) :=
  List.perm_middle (a := c) (l₁ := boxC S ov wv :: slC ov (es.map En.a) :: slC wv (es.map En.m) :: rows es)
theorem Cn.out (h : All (Cn S ov wv es (c :: cs)) w) : All (c :: Cn S ov wv es cs) w := h.perm (Cn_perm _ _ _ _ _ _)
theorem Cn.in_ (h : All (c :: Cn S ov wv es cs) w) : All (Cn S ov wv es (c :: cs)) w := h.perm (Cn_perm _ _ _ _ _ _).symm
theorem Cn.perm (h : All (Cn S ov wv es cs) w) (p : cs.Perm ds) : All (Cn S ov wv es ds) w := by
  refine All.perm ?_ h
  exact List.Perm.cons _ (List.Perm.cons _ (List.Perm.cons _ (p.append_left _)))
end

set_option maxHeartbeats 800000 in
set_option maxRecDepth 1000000 in
/-- Fail, of whatever. -/
theorem rfail0_any {w : World} {b : Nat} {D : Option Nat} {rv : Value} {rs : List UInt8} {place : Nat} {err : Int} (h : Rd w b D rv rs place err) (e0 : Int) :
    Calls Try.prog 53 #[.pointer (some ⟨b, 0, none⟩), .int .i64 e0] w fun e w' => e = .returned (.tuple #[]) ∧ (∃ rv', Rd w' b D rv' (failR rs err e0).1 place (failR rs err e0).2) ∧ Only b w w' := by
  by_cases he : e0 = 0
  · subst he
    have e : failR rs err 0 = (rs, err) := by unfold failR; split <;> simp [*]
    rw [e]
    have c2 : w.cell? ⟨b, 2, none⟩ = some (.int .i64 err) := by rw [cell_at h.box]; rfl
    have HH := hid h
    clear h
    by_cases hz : err = 0
    · subst hz
      go_enter Try.func53, Try.ntmps53
      go_wp2
      go_end0
      exact ⟨rfl, ⟨_, HH.out⟩, Only.refl _ _⟩
    · have hb1 : (err == 0) = false := by simpa using hz
      clear hz
      go_enter Try.func53, Try.ntmps53
      go_wp2
      go_end0
      exact ⟨rfl, ⟨_, HH.out⟩, Only.refl _ _⟩
  · refine (rfail_any h e0 he).mono ?_
    rintro e w' ⟨rfl, ⟨rv', h1⟩, h2⟩
    refine ⟨rfl, ⟨rv', ?_⟩, h2⟩
    by_cases hz : err = 0
    · subst hz
      simpa [failR, he, keepE] using h1
    · have e : failR rs err e0 = (rs, err) := by simp [failR, hz]
      have e2 := h.broken hz
      subst e2
      rw [e]
      simpa [keepE, hz] using h1

end Go.Proofs.Ytdndfbgjaadbmaa

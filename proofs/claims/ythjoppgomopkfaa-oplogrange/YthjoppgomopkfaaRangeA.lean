import Derived.Test.YthjoppgomopkfaaDReset
import Derived.Test.YthjoppgomopkfaaGath2
import Derived.Test.YthjoppgomopkfaaOrd
import Derived.Test.YthjoppgomopkfaaLawN
import Derived.Test.YthjoppgomopkfaaCut
import Derived.Test.YthjoppgomopkfaaRefC
import Derived.Test.YthjoppgomopkfaaRefB
import Derived.Test.YthjoppgomopkfaaLog3
namespace Go.Proofs.Ythjoppgomopkfaa
open Go.RowKit Go.Shelf
set_option linter.unusedVariables false

/-- What was there, but for some blocks. -/
def oldC (w : World) (F : List Nat) : Comp := ⟨fun W => Fr F w W, (List.range w.heap.size).filter fun k => decide (k ∉ F)⟩
theorem oldC_good (w : World) (F : List Nat) : (oldC w F).Good := by
  intro x y h hs hb
  have h' : Fr F w x := h
  exact ⟨hs.os.trans h'.os, hs.tape.trans h'.tape, hs.output.trans h'.output, Nat.le_trans h'.size hs.size, fun k hk hF => (hb k (by simp [oldC, hk, hF])).trans (h'.block k hk hF)⟩
theorem All.oldAt {cs : List Comp} {w W : World} {F : List Nat} (h : All cs W) (hm : oldC w F ∈ cs) : Fr F w W := (h.mem hm).2.1
def fps (A : List Comp) : List Nat := A.flatMap Comp.fp
/-- All else stands aside. -/
theorem All.guarded {A : List Comp} {W : World} (h : All A W) : All (A ++ [oldC W (fps A)]) W := by
  have key : ∀ (B : List Comp), (∀ c ∈ B, c ∈ A) → All B W → All (B ++ [oldC W (fps A)]) W := by
    intro B
    induction B with
    | nil => exact fun _ _ => ⟨⟨oldC_good _ _, Fr.refl _ _, fun k hk => List.mem_range.1 (List.mem_filter.1 hk).1⟩, fun d hd => (by cases hd), trivial⟩
    | cons a B ih =>
      intro hs hB
      refine ⟨hB.1, fun d hd => ?_, ih (fun c hc => hs c (by simp [hc])) hB.2.2⟩
      rcases List.mem_append.1 hd with hd | hd
      · exact hB.2.1 d hd
      · rw [List.mem_singleton.1 hd]
        intro k hk hkd
        have := (List.mem_filter.1 hkd).2
        simp only [decide_not, Bool.not_eq_true', decide_eq_false_iff_not] at this
        exact this (List.mem_flatMap.2 ⟨a, hs a (by simp), hk⟩)
  exact key A (fun _ h => h) h
/-- Its blocks are rows of cells. -/
def Comp.cellsy (d : Comp) : Prop := ∀ W, d.holds W → ∀ k ∈ d.fp, ∃ o : Obj, W.heap[k]? = some o ∧ o.isCells = true
theorem blkC_cellsy (g : Nat) (vs : List Value) (t : TypeId) : (blkC g vs t).cellsy := fun W h => blkC_cells h
theorem rowC_cellsy (e : TypeId) (size : Nat) (v : Value) (n : Nat) (vs : List Value) : (rowC e size v n vs).cellsy := fun W h => rowC_cells h
def Okay (B : Nat) (cs : List Comp) : Prop := ∀ d ∈ cs, (∀ k ∈ d.fp, k < B) ∨ d.cellsy
theorem Okay.cons {B : Nat} {d : Comp} {cs : List Comp} (h : d.cellsy) (k : Okay B cs) : Okay B (d :: cs) := fun x hx => by
  rcases List.mem_cons.1 hx with rfl | hx
  · exact .inr h
  · exact k x hx
theorem Okay.app {B : Nat} {xs cs : List Comp} (h : Okay B xs) (k : Okay B cs) : Okay B (xs ++ cs) := fun x hx => by
  rcases List.mem_append.1 hx with hx | hx
  · exact h x hx
  · exact k x hx
theorem okay_log (B g h b o n : Nat) (ps : List Ent) : Okay B (logP g h b o n ps) := .cons (blkC_cellsy _ _ _) (.cons (blkC_cellsy _ _ _) (fun x hx => by cases hx))
theorem okay_ref (B p n b : Nat) (v : Value) (l : List Ent) : Okay B (refP p n b v l) := .cons (blkC_cellsy _ _ _) (.cons (rowC_cellsy _ _ _ _ _) (fun x hx => by cases hx))
theorem okay_optH (B H0 : Nat) (L : List Ent) (pre : List (Nat × Ent)) : Okay B (optH H0 L pre) := fun d hd => by
  obtain ⟨g, vs, t, rfl⟩ := optH_blk d hd
  exact .inr (blkC_cellsy _ _ _)
theorem All.recordO {cs : List Comp} {W W' : World} {row : Option Nat} {B : Nat} (h : All cs W) (hg : W.grownBy W' row) (hr : ∀ r, row = some r → B ≤ r ∧ ∃ o : Obj, W.heap[r]? = some o ∧ o.isCells = false) (hc : Okay B cs) : All cs W' :=
  h.record hg hr (fun d hd => (hc d hd).imp id (fun hy => hy W (h.mem hd).2.1))
theorem keeps_old {A : List Comp} {W W' : World} {B : Nat} (h : All A W) (hc : Okay B A) (hf : Fr (fps A) W W') : KeepsFrom B W W' :=
  ⟨hf.size, fun k o hB hk ho => (hf.block k (Array.getElem?_eq_some_iff.1 hk).1 (fun hF => by
    obtain ⟨d, hd, hkd⟩ := List.mem_flatMap.1 hF
    rcases hc d hd with h1 | h1
    · have := h1 k hkd; omega
    · obtain ⟨o', ho', hoc⟩ := h1 W (h.mem hd).2.1 k hkd
      rw [hk] at ho'; cases ho'; rw [ho] at hoc; cases hoc)).trans hk⟩
theorem All.lts {cs : List Comp} {W : World} (h : All cs W) : ∀ d ∈ cs, ∀ k ∈ d.fp, k < W.heap.size := fun d hd => (h.mem hd).2.2
theorem okay_of {cs : List Comp} {W : World} (h : All cs W) : Okay W.heap.size cs := fun d hd => .inl (h.lts d hd)

/-- The parts of a range over a log: the log, the document's, the round's number, and what stands. -/
def prt (n : Nat) (t : Tw) (BI i : Nat) (RR : List Comp) : List Comp := logP t.g t.h t.b (t.b + t.L.length) n t.ps ++ (refP t.p n t.b t.v t.L ++ (blkC BI [.int .i64 (i : Int)] 3 :: RR))
theorem okay_prt {B n : Nat} {t : Tw} {BI i : Nat} {RR : List Comp} (h : Okay B RR) : Okay B (prt n t BI i RR) := (okay_log _ _ _ _ _ _ _).app ((okay_ref _ _ _ _ _ _).app (.cons (blkC_cellsy _ _ _) h))

section
variable {H0 b0 n g p BI B : Nat} {L0 : List Ent} {RR : List Comp}
def IO (H0 : Nat) (L0 : List Ent) (n g p BI : Nat) (RR : List Comp) (pre : List (Nat × Ent)) (W : World) : Prop := ∃ t : Tw, t.g = g ∧ t.p = p ∧ t.ok n ∧ All (optH H0 L0 pre ++ prt n t BI pre.length RR) W
def IO2 (H0 b0 : Nat) (L0 : List Ent) (n g p BI : Nat) (RR : List Comp) (pre : List (Nat × Ent)) (x : Nat × Ent) (W : World) : Prop := pre ++ [x] <+: items b0 L0 ∧ ∃ t : Tw, t.g = g ∧ t.p = p ∧ t.ok n ∧ All (blkC H0 (flatE L0) 39 :: prt n t BI pre.length RR) W
theorem IO_own (hb : Okay B RR) : OwnFrom B (IO H0 L0 n g p BI RR) := by
  rintro pre A C row ⟨t, h1, h2, h3, hA⟩ hg hr
  exact ⟨t, h1, h2, h3, hA.recordO hg hr ((okay_optH _ _ _ _).app (okay_prt hb))⟩
theorem IO2_own (pre : List (Nat × Ent)) (hb : Okay B RR) : OwnFrom B (IO2 H0 b0 L0 n g p BI RR pre) := by
  rintro x A C row ⟨hp, t, h1, h2, h3, hA⟩ hg hr
  exact ⟨hp, t, h1, h2, h3, hA.recordO hg hr (.cons (blkC_cellsy _ _ _) (okay_prt hb))⟩
theorem opt_fresh {X : List Comp} {b : Nat} {L : List Ent} {pre : List (Nat × Ent)} {x : Nat × Ent} {W0 W1 : World} (hA : All (optH H0 L pre ++ X) W0) (hf : FreshI H0 b L pre x W0 W1) : All (blkC H0 (flatE L) 39 :: X) W1 := by
  by_cases hp : pre = []
  · have h1 := hf.first hp
    rw [optH, if_pos hp, List.nil_append] at hA
    refine hA.add (Fr.below hf.below) (blkC_good _ _ _) hf.list (fun k hk => ?_)
    have : k = H0 := by simpa [blkC] using hk
    subst this
    exact ⟨h1, (Array.getElem?_eq_some_iff.1 hf.list).1⟩
  · rw [optH, if_neg hp] at hA
    exact hA.later hf.below
theorem IO_fresh {pre : List (Nat × Ent)} {x : Nat × Ent} {W0 W1 : World} (h : IO H0 L0 n g p BI RR pre W0) (hf : FreshI H0 b0 L0 pre x W0 W1) : IO2 H0 b0 L0 n g p BI RR pre x W1 := by
  obtain ⟨t, h1, h2, h3, hA⟩ := h
  exact ⟨hf.next, t, h1, h2, h3, opt_fresh hA hf⟩
/-- The parts of the inner range. -/
def IJ (H1 : Nat) (L : List Ent) (BK : Nat) (base : List Comp) (pre : List (Nat × Ent)) (W : World) : Prop := All (optH H1 L pre ++ (blkC BK [.int .i64 (pre.length : Int)] 3 :: base)) W
def IJ2 (H1 b : Nat) (L : List Ent) (BK : Nat) (base : List Comp) (pre : List (Nat × Ent)) (x : Nat × Ent) (W : World) : Prop := pre ++ [x] <+: items b L ∧ All (blkC H1 (flatE L) 39 :: blkC BK [.int .i64 (pre.length : Int)] 3 :: base) W
variable {H1 b BK : Nat} {L : List Ent} {base : List Comp}
theorem IJ_own (hb : Okay B base) : OwnFrom B (IJ H1 L BK base) := by
  rintro pre A C row hA hg hr
  exact All.recordO hA hg hr ((okay_optH _ _ _ _).app (.cons (blkC_cellsy _ _ _) hb))
theorem IJ2_own (pre : List (Nat × Ent)) (hb : Okay B base) : OwnFrom B (IJ2 H1 b L BK base pre) := by
  rintro x A C row ⟨hp, hA⟩ hg hr
  exact ⟨hp, hA.recordO hg hr (.cons (blkC_cellsy _ _ _) (.cons (blkC_cellsy _ _ _) hb))⟩
theorem IJ_fresh {pre : List (Nat × Ent)} {x : Nat × Ent} {W0 W1 : World} (h : IJ H1 L BK base pre W0) (hf : FreshI H1 b L pre x W0 W1) : IJ2 H1 b L BK base pre x W1 := ⟨hf.next, opt_fresh h hf⟩
end
theorem prt_step {c : Comp} {n : Nat} {t : Tw} {BI i : Nat} {RO : List Comp} {W : World} (h : All (c :: prt n t BI i RO) W) : All (c :: prt n t BI (i + 1) RO) (W.setCell ⟨BI, 0, none⟩ (.int .i64 ((i : Int) + 1))) := by
  have h1 : All ([blkC BI [.int .i64 (i : Int)] 3] ++ ([c] ++ (logP t.g t.h t.b (t.b + t.L.length) n t.ps ++ (refP t.p n t.b t.v t.L ++ RO)))) W := h.perm (by
    have := perm_by 5 [[c], logP t.g t.h t.b (t.b + t.L.length) n t.ps, refP t.p n t.b t.v t.L, [blkC BI [.int .i64 (i : Int)] 3], RO] [3, 0, 1, 2, 4] rfl (by decide)
    simpa [List.getD, prt] using this)
  have h2 : All ([blkC BI [.int .i64 ((i : Int) + 1)] 3] ++ ([c] ++ (logP t.g t.h t.b (t.b + t.L.length) n t.ps ++ (refP t.p n t.b t.v t.L ++ RO)))) (W.setCell ⟨BI, 0, none⟩ (.int .i64 ((i : Int) + 1))) := All.setBlk h1 0 (.int .i64 ((i : Int) + 1))
  refine h2.perm ?_
  have := perm_by 5 [[blkC BI [.int .i64 ((i : Int) + 1)] 3], [c], logP t.g t.h t.b (t.b + t.L.length) n t.ps, refP t.p n t.b t.v t.L, RO] [1, 2, 3, 0, 4] rfl (by decide)
  simpa [List.getD, prt] using this
theorem prt_sub {n : Nat} {t : Tw} {BI i : Nat} {RR RO : List Comp} (h : RR.Sublist RO) : (prt n t BI i RR).Sublist (prt n t BI i RO) := by
  unfold prt
  exact (List.Sublist.refl (logP t.g t.h t.b (t.b + t.L.length) n t.ps)).append ((List.Sublist.refl (refP t.p n t.b t.v t.L)).append (.cons_cons _ h))
theorem prt_out {c : Comp} {n : Nat} {t : Tw} {BI i : Nat} {RK : List Comp} {W : World} (h : All (c :: prt n t BI i RK) W) : All (logP t.g t.h t.b (t.b + t.L.length) n t.ps ++ (refP t.p n t.b t.v t.L ++ (c :: blkC BI [.int .i64 (i : Int)] 3 :: RK))) W := h.perm (by
  have := perm_by 5 [[c], logP t.g t.h t.b (t.b + t.L.length) n t.ps, refP t.p n t.b t.v t.L, [blkC BI [.int .i64 (i : Int)] 3], RK] [1, 2, 0, 3, 4] rfl (by decide)
  simpa [List.getD, prt] using this)
theorem prt_in {c : Comp} {n : Nat} {t : Tw} {BI i : Nat} {RK : List Comp} {W : World} (h : All (logP t.g t.h t.b (t.b + t.L.length) n t.ps ++ (refP t.p n t.b t.v t.L ++ (c :: blkC BI [.int .i64 (i : Int)] 3 :: RK))) W) : All (c :: prt n t BI i RK) W := h.perm (by
  have := perm_by 5 [logP t.g t.h t.b (t.b + t.L.length) n t.ps, refP t.p n t.b t.v t.L, [c], [blkC BI [.int .i64 (i : Int)] 3], RK] [2, 0, 1, 3, 4] rfl (by decide)
  simpa [List.getD, prt] using this)
/-- Add, of the program and of the document. -/
theorem add_two {n g h b : Nat} {p : Nat} {L ps : List Ent} (k : LogOk b n L ps) (x : Ent) : ∃ (q : Int) (b' : Nat) (L' : List Ent),
    (∀ (W : World) (Z : List Comp), All (logP g h b (b + L.length) n ps ++ Z) W → Calls Try.prog 17 #[.pointer (some ⟨g, 0, none⟩), x.V] W fun e w' => e = .returned (.int .i64 q) ∧ ∃ h' ps', LogOk b' n L' ps' ∧ All (logP g h' b' (b' + L'.length) n ps' ++ Z) w') ∧
    (∀ (v : Value) (W : World) (Z : List Comp), All (refP p n b v L ++ Z) W → Calls Try.prog 18 #[.pointer (some ⟨p, 0, none⟩), x.V] W fun e w' => e = .returned (.int .i64 q) ∧ ∃ v', All (refP p n b' v' L' ++ Z) w') := by
  refine ⟨addE b n L, b, (if addE b n L = 0 then L ++ [x] else L), fun W Z A => ?_, fun v W Z A => ?_⟩
  · refine (Add_any A k x).mono ?_
    rintro e w' ⟨rfl, l', ps', rfl, hk, A'⟩
    exact ⟨rfl, h, ps', hk, A'⟩
  · refine (rAdd_any A k.le k.few k.top x).mono ?_
    rintro e w' ⟨rfl, v', l', rfl, A'⟩
    exact ⟨rfl, v', A'⟩
/-- Cut, of the program and of the document. -/
theorem cut_two {n g h b : Nat} {p : Nat} {L ps : List Ent} (k : LogOk b n L ps) (op : Int) : ∃ (q : Int) (b' : Nat) (L' : List Ent),
    (∀ (W : World) (Z : List Comp), All (logP g h b (b + L.length) n ps ++ Z) W → Calls Try.prog 21 #[.pointer (some ⟨g, 0, none⟩), .int .i64 op] W fun e w' => e = .returned (.int .i64 q) ∧ ∃ h' ps', LogOk b' n L' ps' ∧ All (logP g h' b' (b' + L'.length) n ps' ++ Z) w') ∧
    (∀ (v : Value) (W : World) (Z : List Comp), All (refP p n b v L ++ Z) W → Calls Try.prog 22 #[.pointer (some ⟨p, 0, none⟩), .int .i64 op] W fun e w' => e = .returned (.int .i64 q) ∧ ∃ v', All (refP p n b' v' L' ++ Z) w') := by
  by_cases hc : (b : Int) ≤ op ∧ op ≤ ((b + L.length : Nat) : Int)
  · obtain ⟨o, rfl⟩ : ∃ o : Nat, op = (o : Int) := ⟨op.toNat, by omega⟩
    refine ⟨0, o, L.drop (o - b), fun W Z A => ?_, fun v W Z A => ?_⟩
    · refine (Cut_ok A k o (by omega) (by omega)).mono ?_
      rintro e w' ⟨rfl, ps', hk, A'⟩
      rw [show b + L.length = o + (L.drop (o - b)).length by rw [List.length_drop]; omega] at A'
      exact ⟨rfl, h, ps', hk, A'⟩
    · exact rCut_ok A k.top (Nat.le_trans k.few k.le) o (by omega) (by omega)
  · refine ⟨92, b, L, fun W Z A => ?_, fun v W Z A => ?_⟩
    · refine (Cut_no A.head op hc).mono ?_
      rintro e w' ⟨rfl, rfl⟩
      exact ⟨rfl, h, ps, k, A⟩
    · obtain ⟨vo, vc, rfl, _⟩ := owns7_form A.refRow
      refine (rCut_no A.ref k.top op hc).mono ?_
      rintro e w' ⟨rfl, hb⟩
      exact ⟨rfl, _, A.later hb⟩
end Go.Proofs.Ythjoppgomopkfaa

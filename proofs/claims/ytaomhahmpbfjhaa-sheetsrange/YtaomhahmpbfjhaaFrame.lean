import Derived.Test.YtaomhahmpbfjhaaLSame
import Derived.Test.YtaomhahmpbfjhaaCarryLaw
import Derived.Test.YtaomhahmpbfjhaaLawN
namespace Go.Proofs.Ytaomhahmpbfjhaa
open Go.RowKit
set_option linter.unusedVariables false

/-- What was there, but for some blocks. -/
def oldC (w : World) (F : List Nat) : Comp := ⟨fun W => Fr F w W, (List.range w.heap.size).filter fun k => decide (k ∉ F)⟩
theorem oldC_good (w : World) (F : List Nat) : (oldC w F).Good := by
  intro x y h hs hb
  have h' : Fr F w x := h
  exact ⟨hs.os.trans h'.os, hs.tape.trans h'.tape, hs.output.trans h'.output, Nat.le_trans h'.size hs.size, fun k hk hF => (hb k (by simp [oldC, hk, hF])).trans (h'.block k hk hF)⟩
theorem All.oldAt {cs : List Comp} {w W : World} {F : List Nat} (h : All cs W) (hm : oldC w F ∈ cs) : Fr F w W := (h.mem hm).2.1

def fps (A : List Comp) : List Nat := A.flatMap Comp.fp

theorem All.left {A B : List Comp} {w : World} (h : All (A ++ B) w) : All A w := h.sublist (List.sublist_append_left A B)

theorem All.apart {A B : List Comp} {w : World} (h : All (A ++ B) w) : ∀ c ∈ A, ∀ d ∈ B, Disj c.fp d.fp := by
  induction A with
  | nil => intro c hc; cases hc
  | cons a A ih =>
    intro c hc d hd
    rcases List.mem_cons.1 hc with rfl | hc
    · exact h.2.1 d (by simp [hd])
    · exact ih h.2.2 c hc d hd

theorem All.join {A B : List Comp} {w : World} (hA : All A w) (hB : All B w) (hd : ∀ c ∈ A, ∀ d ∈ B, Disj c.fp d.fp) : All (A ++ B) w := by
  induction A with
  | nil => exact hB
  | cons a A ih =>
    refine ⟨hA.1, fun d hdm => ?_, ih hA.2.2 (fun c hc => hd c (by simp [hc]))⟩
    rcases List.mem_append.1 hdm with h | h
    · exact hA.2.1 d h
    · exact hd a (by simp) d h

/-- Some parts are worked on, the others stand aside. -/
theorem All.aside {A B : List Comp} {W : World} (h : All (A ++ B) W) : All (A ++ [oldC W (fps A)]) W ∧ ∀ A' W', All (A' ++ [oldC W (fps A)]) W' → All (A' ++ B) W' := by
  have hin : ∀ c ∈ A, ∀ k ∈ c.fp, k ∈ fps A := fun c hc k hk => List.mem_flatMap.2 ⟨c, hc, hk⟩
  have hout : ∀ d ∈ B, ∀ k ∈ d.fp, k ∉ fps A := fun d hd k hk hkA => by
    obtain ⟨c, hc, hkc⟩ := List.mem_flatMap.1 hkA
    exact h.apart c hc d hd k hkc hk
  have hBW : All B W := h.rest
  refine ⟨h.left.join ⟨⟨oldC_good _ _, Fr.refl _ _, fun k hk => List.mem_range.1 (List.mem_filter.1 hk).1⟩, fun d hd => (by cases hd), trivial⟩ (fun c hc d hd k hk hkd => ?_), fun A' W' h' => ?_⟩
  · simp only [List.mem_singleton] at hd
    subst hd
    have := (List.mem_filter.1 hkd).2
    simp only [decide_not, Bool.not_eq_true', decide_eq_false_iff_not] at this
    exact this (hin c hc k hk)
  · have hf : Fr (fps A) W W' := h'.oldAt (by simp)
    have hold : ∀ d ∈ B, ∀ k ∈ d.fp, k ∈ (oldC W (fps A)).fp := fun d hd k hk => by
      have h1 := (hBW.mem hd).2.2 k hk
      have h2 := hout d hd k hk
      simp [oldC, h1, h2]
    refine h'.left.join (hBW.kept hf (fun d hd k hk hkd => hout d hd k hkd hk)) (fun c hc d hd k hk hkd => ?_)
    exact h'.apart c hc (oldC W (fps A)) (by simp) k hk (hold d hd k hkd)

end Go.Proofs.Ytaomhahmpbfjhaa
